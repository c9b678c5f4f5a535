import PyProof.Rows.All
import Wide.All
import OpenK.AllK
import Wide.FinOn
import HandS.ForMost
import HandS.Wide
import HandS.Conv
import HandS.Evl
import KE.KDictWalk
import HandS.SlotsOwn
import HandS.Property
import HandS.Defaults
import HandS.More
import HandS.Codes
import HandS.IsInst
import HandS.Style
import HandS.Lambda
import HandS.CallLocal
import PyProof.StrOps2
import HandS.TryMany
import HandS.ExcInit
import HandS.ExcIs
import HandS.ExcField
import KE.KExcSuper
import HandS.Iter
import PySem.Challenge.RW_foldplans_k90_errors
set_option Elab.async false
set_option linter.all false
set_option maxRecDepth 100000
set_option maxHeartbeats 4000000
/-! what the laws of this program share -/
namespace Fp
open PySem PySem.Spec PyProof.Rows L2

/-! ### defs of the text, by name -/
def Dn (P : Program) (w : World) (K : PySem.W.Frag) (mg : Str → Option Value) (base : Heap) (k : Nat) (x : Str) (ps : List Str) (sp : Sp) : Prop :=
  ∃ f fd, mg x = some (.ref f) ∧ PySem.W.keepIn K (.ref f) = true ∧ Binds K fd ps [] ∧ FnOk P w K mg base CX0 k f fd ps sp
section
variable {X : Cx} {k : Nat} {x : Str} {ps : List Str} {sp : Sp} {p pos : Pos} {e : Expr} {es : List Expr} {t : TA}
theorem pd (D : Dn X.prog X.w X.K X.mg X.base k x ps sp) (hr : Room k X.A) (hg : Gl X x) (ha : PA X (e :: es) t) (hdb : (x == ("__debug__" : Str)) = false := by decide)
    (he : starEach (e :: es) X.env = (false, eval e X.env) :: starEach es X.env := by rfl) (hpl : (backTo pos (starEach es X.env)).any (·.1) = false := by rfl) :
    PE X (.Call (.Name x p) (e :: es) [] pos) (tCall sp [] E0 t) := by
  obtain ⟨f, fd, h1, h2, h3, h4⟩ := D
  exact pe_call h4 hr hg h1 h2 h3 .nil pass0 ha hdb he hpl
theorem pd0 (D : Dn X.prog X.w X.K X.mg X.base k x ps sp) (hr : Room k X.A) (hg : Gl X x) (hdb : (x == ("__debug__" : Str)) = false := by decide) :
    PE X (.Call (.Name x p) [] [] pos) (tCall sp [] E0 tNil) := by
  obtain ⟨f, fd, h1, h2, h3, h4⟩ := D
  exact pe_call0 h4 hr hg h1 h2 h3 .nil pass0 hdb
end

/-! ### heaps -/
/-- all but the object at p stays -/
def But (p : Addr) (H H' : Hp) : Prop := (∀ b o, H b = some o → b ≠ p → H' b = some o) ∧ (H p ≠ none → H' p ≠ none)
theorem But.refl (p : Addr) (H : Hp) : But p H H := ⟨fun _ _ h _ => h, fun h => h⟩
theorem But.trans {p : Addr} {H H1 H2 : Hp} (a : But p H H1) (b : But p H1 H2) : But p H H2 := ⟨fun c o h n => b.1 c o (a.1 c o h n) n, fun h => b.2 (a.2 h)⟩
theorem But.of {p : Addr} {H H' : Hp} (e : Same H H') : But p H H' := ⟨fun b o h _ => e b o h, fun h => by
  cases q : H p with
  | none => exact absurd q h
  | some o => rw [e p o q]; intro z; cases z⟩
theorem But.free {p l : Addr} {H H' : Hp} (e : But p H H') (h : H' l = none) : H l = none := by
  cases q : H l with
  | none => rfl
  | some o =>
    by_cases hl : l = p
    · subst hl
      exact absurd h (e.2 (by rw [q]; intro z; cases z))
    · rw [e.1 l o q hl] at h
      cases h
theorem But.new {p q : Addr} {H H' : Hp} {o : HO} (e : But p H H') (h : H' q = none) : But p H (upd H' q o) := e.trans (But.of fun b u hb => by
  rw [upd_ne (ne_of_none hb h)]
  exact hb)
theorem Same.new {H H' : Hp} {q : Addr} {o : HO} (e : Same H H') (h : H' q = none) : Same H (upd H' q o) := fun b u hb => by
  have h1 := e b u hb
  rw [upd_ne (ne_of_none h1 h)]
  exact h1
theorem same_new {H : Hp} {q : Addr} {o : HO} (h : H q = none) : Same H (upd H q o) := Same.new (Same.refl H) h
/-- an object that H does not know may change -/
theorem Same.mut {H H' : Hp} {p : Addr} {o : HO} (e : Same H H') (h : H p = none) : Same H (upd H' p o) := fun a u ha => by
  rw [upd_ne (ne_of_none ha h)]
  exact e a u ha
theorem But.mut {p q : Addr} {H H' : Hp} {o : HO} (e : But p H H') (h : H q = none) : But p H (upd H' q o) := ⟨fun a u ha hp => by
  rw [upd_ne (ne_of_none ha h)]
  exact e.1 a u ha hp, fun hn => by
  by_cases z : p = q
  · subst z; exact absurd h hn
  · rw [upd_ne z]; exact e.2 hn⟩

/-! ### rules with one way -/
section
variable {X : Cx}
def rIntI : List V → Hp → VK → Prop := fun xs H Q => ∃ i, xs = [.int i] ∧ Q (.int i) H
theorem call_intI : CallR X (.type "int") rIntI := fun pins s σ H xs us Q I r h => call_int1 pins s σ H xs us Q I r (.inl h)
def rIntB : List V → Hp → VK → Prop := fun xs H Q => ∃ k, xs = [.bl k] ∧ Q (.int (if k then 1 else 0)) H
theorem call_intB : CallR X (.type "int") rIntB := fun pins s σ H xs us Q I r h => call_int1 pins s σ H xs us Q I r (.inr h)
def rLenL (K : PySem.W.Frag) : List V → Hp → VK → Prop := fun xs H Q => ∃ p ys, xs = [.ref p] ∧ SqL K H p ys ∧ Q (.int ys.length) H
theorem call_lenL : CallR X (.builtin "len") (rLenL X.K) := fun pins s σ H xs us Q I r h => by
  obtain ⟨p, ys, e, h1, q⟩ := h
  exact call_len_seq pins s σ H xs us Q I r ⟨p, ys, e, .inl h1, q⟩
def rListL (K : PySem.W.Frag) : List V → Hp → VK → Prop := fun xs H Q => ∃ p ys, xs = [.ref p] ∧ SqL K H p ys ∧ ∀ l, H l = none → Q (.ref l) (upd H l (.lst ys))
theorem call_listL : CallR X (.type "list") (rListL X.K) := fun pins s σ H xs us Q I r h => by
  obtain ⟨p, ys, e, h1, q⟩ := h
  exact call_list_of pins s σ H xs us Q I r ⟨p, ys, e, .inl h1, q⟩
def rListT (K : PySem.W.Frag) : List V → Hp → VK → Prop := fun xs H Q => ∃ p ys, xs = [.ref p] ∧ SqT K H p ys ∧ ∀ l, H l = none → Q (.ref l) (upd H l (.lst ys))
theorem call_listT : CallR X (.type "list") (rListT X.K) := fun pins s σ H xs us Q I r h => by
  obtain ⟨p, ys, e, h1, q⟩ := h
  exact call_list_of pins s σ H xs us Q I r ⟨p, ys, e, .inr h1, q⟩
def rAbs : List V → Hp → VK → Prop := fun xs H Q => ∃ i, xs = [.int i] ∧ Q (.int (if i < 0 then -i else i)) H
theorem call_absI : CallR X (.builtin "abs") rAbs := call_abs
end
/-! ### dicts by written keys -/
theorem dg_s {H : Hp} {a : Addr} {kvs : List (Key × V)} {z : Str} {v : V} {R : V → Prop} (h : H a = some (.dK kvs)) (hv : valV kvs (Sum.inr z) = some v) (q : R v) : ∃ x, DGet H a (.str z) (some x) ∧ R x :=
  ⟨v, by rw [← hv]; exact DGet.k (k := Sum.inr z) h, q⟩
theorem dp_s {H : Hp} {a : Addr} {kvs : List (Key × V)} {z : Str} {v : V} {R : Hp → Prop} (h : H a = some (.dK kvs)) (hl : kvs.length < sizeLine) (q : R (upd H a (.dK (putK kvs (Sum.inr z) v)))) : ∃ H', DPut H a (.str z) v H' ∧ R H' :=
  ⟨_, DPut.k (k := Sum.inr z) h hl, q⟩
/-! ### data -/
theorem dp_ints (K : PySem.W.Frag) (H : Hp) : ∀ ns : List Int, DpAll K H (ns.map V.int) (ns.map PyData.int)
  | [] => .nil
  | n :: r => .cons (.int n) (dp_ints K H r)
theorem dp_strs (K : PySem.W.Frag) (H : Hp) : ∀ ns : List Str, DpAll K H (ns.map V.str) (ns.map PyData.str)
  | [] => .nil
  | n :: r => .cons (.str n) (dp_strs K H r)
/-- a list and a new empty list -/
theorem ne_nil {K : PySem.W.Frag} {H : Hp} {p q : Addr} {xs : List V} {ds : List PyData} {Q : VK} (hp : SqL K H p xs) (hd : DpAll K H xs ds) (hs : SeqAt.shaped (.list ds) = true) (hq : H q = some (.lst [])) (k : Q (.bl (!xs.isEmpty)) H) :
    rNeD K (.ref p) (.ref q) H Q := by
  refine ⟨.list ds, .list [], .lst hp hd, .lst (.inl (.inl hq)) .nil, hs, by decide, ?_⟩
  cases hd with
  | nil => exact k
  | cons a b => exact k
theorem eq_nil {K : PySem.W.Frag} {H : Hp} {p q : Addr} {xs : List V} {ds : List PyData} {Q : VK} (hp : SqL K H p xs) (hd : DpAll K H xs ds) (hs : SeqAt.shaped (.list ds) = true) (hq : H q = some (.lst [])) (k : Q (.bl xs.isEmpty) H) :
    rEqD K (.ref p) (.ref q) H Q := by
  refine ⟨.list ds, .list [], .lst hp hd, .lst (.inl (.inl hq)) .nil, hs, by decide, ?_⟩
  cases hd with
  | nil => exact k
  | cons a b => exact k
def Shp (n : Nat) (d : PyData) : Prop := d.canLay0 = true ∧ d.depth ≤ n
theorem shp_all {n : Nat} : ∀ {ds : List PyData}, (∀ d ∈ ds, Shp n d) → PyData.canLayAll0 ds = true ∧ PyData.depthAll ds ≤ n
  | [], _ => ⟨rfl, Nat.zero_le _⟩
  | d :: r, h => by
    obtain ⟨h1, h2⟩ := shp_all (ds := r) fun x hx => h x (List.mem_cons_of_mem _ hx)
    obtain ⟨h3, h4⟩ := h d List.mem_cons_self
    exact ⟨by show (PyData.canLay0 d && PyData.canLayAll0 r) = true; rw [h1, h3]; rfl, Nat.max_le.mpr ⟨h4, h2⟩⟩
theorem shp_lst {n : Nat} {ds : List PyData} (h : ∀ d ∈ ds, Shp n d) : Shp (n + 1) (.list ds) := ⟨(shp_all h).1, Nat.succ_le_succ (shp_all h).2⟩
theorem shp_tup {n : Nat} {ds : List PyData} (h : ∀ d ∈ ds, Shp n d) : Shp (n + 1) (.tuple ds) := ⟨(shp_all h).1, Nat.succ_le_succ (shp_all h).2⟩
theorem shp_int (i : Int) : Shp 0 (.int i) := ⟨rfl, Nat.le_refl _⟩
theorem shp_bool (b : Bool) : Shp 0 (.bool b) := ⟨rfl, Nat.le_refl _⟩
theorem shp_non : Shp 0 .none := ⟨rfl, Nat.le_refl _⟩
theorem Shp.mono {n m : Nat} {d : PyData} (h : Shp n d) (hm : n ≤ m) : Shp m d := ⟨h.1, Nat.le_trans h.2 hm⟩
theorem Shp.ok {n : Nat} {d : PyData} (h : Shp n d) (hn : n ≤ 64) : SeqAt.shaped d = true := by
  show (d.canLay0 && decide (d.depth ≤ 64)) = true
  rw [h.1, decide_eq_true (Nat.le_trans h.2 hn)]
  rfl
theorem shaped_ints (ns : List Int) : SeqAt.shaped (.list (ns.map PyData.int)) = true := (shp_lst (n := 0) fun d hd => by
  obtain ⟨i, _, rfl⟩ := List.mem_map.mp hd
  exact shp_int i).ok (by decide)
theorem ix_mod {ns : List Int} {t : Int} (h0 : ns ≠ []) : ∃ v, atI (ns.map V.int) (t % ((ns.map V.int).length : Nat)) = some (.int v) := by
  have hl : 0 < ns.length := by cases ns with
    | nil => exact absurd rfl h0
    | cons x r => exact Nat.succ_pos _
  have h1 : 0 ≤ t % (ns.length : Int) := Int.emod_nonneg _ (by omega)
  have h2 : t % (ns.length : Int) < ns.length := Int.emod_lt_of_pos _ (by omega)
  rw [List.length_map]
  obtain ⟨j, hj⟩ : ∃ j : Nat, t % (ns.length : Int) = j := ⟨(t % (ns.length : Int)).toNat, by omega⟩
  rw [hj]
  have hjl : j < ns.length := by omega
  exact ⟨ns[j], atI_nat (by rw [List.getElem?_map, List.getElem?_eq_getElem hjl]; rfl)⟩
/-! ### slices -/
theorem cut_to (xs : List V) (k : Nat) : cutV xs none (some (k : Int)) = xs.take k := by
  unfold cutV
  rw [HT.sIx_none, show HT.sIx xs.length xs.length (some (k : Int)) = min k xs.length from HT.sIx_nat _ _ k]
  show List.take (min k xs.length) xs = List.take k xs
  rcases Nat.le_total k xs.length with h | h
  · rw [Nat.min_eq_left h]
  · rw [Nat.min_eq_right h, List.take_of_length_le h, List.take_of_length_le (Nat.le_refl _)]

/-! ### the pen -/
theorem s_ct : ¬ (("cells" : Str) = "turn") := by decide
theorem s_lt : ¬ (("left" : Str) = "turn") := by decide
theorem s_cl : ¬ (("cells" : Str) = "left") := by decide
theorem s_tl : ¬ (("turn" : Str) = "left") := by decide
theorem k_ct : ¬ ((Sum.inr ("cells" : Str) : Key) = Sum.inr ("turn" : Str)) := by decide
theorem k_cl : ¬ ((Sum.inr ("cells" : Str) : Key) = Sum.inr ("left" : Str)) := by decide
theorem k_tl : ¬ ((Sum.inr ("turn" : Str) : Key) = Sum.inr ("left" : Str)) := by decide
def penK (c : Addr) (turn left : Int) : List (Key × V) := [(Sum.inr "cells", .ref c), (Sum.inr "turn", .int turn), (Sum.inr "left", .int left)]
theorem pen_cells (c : Addr) (turn left : Int) : valV (penK c turn left) (Sum.inr "cells") = some (.ref c) := by
  unfold penK
  exact valV_pos rfl
theorem pen_turn (c : Addr) (turn left : Int) : valV (penK c turn left) (Sum.inr "turn") = some (.int turn) := by
  unfold penK
  rw [valV_neg k_ct, valV_pos rfl]
theorem pen_left (c : Addr) (turn left : Int) : valV (penK c turn left) (Sum.inr "left") = some (.int left) := by
  unfold penK
  rw [valV_neg k_cl, valV_neg k_tl, valV_pos rfl]
theorem pen_putT (c : Addr) (turn left x : Int) : putK (penK c turn left) (Sum.inr ("turn" : Str)) (.int x) = penK c x left := by
  unfold putK penK
  simp [s_ct, s_lt]
theorem pen_putL (c : Addr) (turn left x : Int) : putK (penK c turn left) (Sum.inr ("left" : Str)) (.int x) = penK c turn x := by
  unfold putK penK
  simp [s_cl, s_tl]
theorem pen_len (c : Addr) (turn left : Int) : (penK c turn left).length < sizeLine := small1000 (by show 3 ≤ 1000; decide)
/-- the dict at p, the list of cells at c -/
structure PenOk (H : Hp) (p c : Addr) (t : Nat) : Prop where
  ex : ∃ (cells : List Int) (turn left : Int), H p = some (.dK (penK c turn left)) ∧
    H c = some (.lst (cells.map V.int)) ∧ cells.length ≤ 63 ∧ 0 ≤ turn ∧ turn ≤ t
theorem PenOk.mono {H : Hp} {p c : Addr} {t t' : Nat} (h : PenOk H p c t) (ht : t ≤ t') : PenOk H p c t' := by
  obtain ⟨cells, turn, left, h1, h2, h3, h4, h5⟩ := h.ex
  exact ⟨cells, turn, left, h1, h2, h3, h4, by omega⟩
theorem PenOk.dict {H : Hp} {p c : Addr} {t : Nat} (h : PenOk H p c t) : ∃ kvs, H p = some (.dK kvs) := by
  obtain ⟨cells, turn, left, h1, _⟩ := h.ex
  exact ⟨_, h1⟩
theorem PenOk.cells {H : Hp} {p c : Addr} {t : Nat} (h : PenOk H p c t) : ∃ xs, H c = some (.lst xs) := by
  obtain ⟨cells, turn, left, h1, h2, _⟩ := h.ex
  exact ⟨_, h2⟩
theorem PenOk.same {H H' : Hp} {p c : Addr} {t : Nat} (h : PenOk H p c t) (e : Same H H') : PenOk H' p c t := by
  obtain ⟨cells, turn, left, h1, h2, h3, h4, h5⟩ := h.ex
  exact ⟨cells, turn, left, e _ _ h1, e _ _ h2, h3, h4, h5⟩
theorem PenOk.mut {H : Hp} {p c l : Addr} {o : HO} {t : Nat} (h : PenOk H p c t) (h1 : l ≠ p) (h2 : l ≠ c) : PenOk (upd H l o) p c t := by
  obtain ⟨cells, turn, left, g1, g2, h3, h4, h5⟩ := h.ex
  exact ⟨cells, turn, left, by rw [upd_ne h1.symm]; exact g1, by rw [upd_ne h2.symm]; exact g2, h3, h4, h5⟩

theorem lg_small {n : Nat} (h : n < 1000000) : ((n : Nat) : Int).natAbs.log2 < 9000 := by
  have := PySem.Flt.log2_lt_of (k := 20) (by decide) (show ((n : Nat) : Int).natAbs < 2 ^ 20 by rw [Int.natAbs_natCast]; omega)
  omega
def spPen (K : PySem.W.Frag) : Sp := fun vs H Q _ => ∃ (a : Addr) (ns : List Int), vs = [.ref a] ∧ SqL K H a (ns.map V.int) ∧ ns.length ≤ 63 ∧
  ∀ H' p c, H p = none → Same H H' → PenOk H' p c 0 → Q (.ref p) H'
def spDraw : Sp := fun vs H Q _ => ∃ (p c : Addr) (span : Int) (t : Nat), vs = [.ref p, .int span] ∧ PenOk H p c t ∧ t ≤ 1000000000 ∧ 0 < span ∧ span.natAbs.log2 < 9000 ∧
  ∀ (r : Int) H', 0 ≤ r → r < span → PenOk H' p c (t + 1) → But p H H' → Q (.int r) H'
end Fp

/-! the keys of a dict that the top has written, walked -/
namespace Fp
open PySem PySem.Spec PyProof.Rows L2
def keyTxt (e : DictEntry) : Option Str := match e.key with
  | .str x _ => some x
  | _ => none
/-- the dict at d stands in the written part, its keys are the texts zs -/
structure KKeys (K : PySem.W.Frag) (d : Addr) (zs : List Str) : Prop where
  ex : ∃ (es : Array DictEntry) (n : Nat), K.lookup d = some ⟨.type "dict", none, .dict es n, #[]⟩ ∧ es.toList.map keyTxt = zs.map some
  low : (d == sysModules) = false
theorem KKeys.at {K : PySem.W.Frag} {d : Addr} {zs : List Str} {es : Array DictEntry} {n : Nat} (h : es.toList.map keyTxt = zs.map some) : es.size = zs.length ∧ ∀ (i : Nat) (hi : i < es.size), ∃ z t, zs[i]? = some z ∧ es[i].key = .str z t := by
  have hl : es.size = zs.length := by
    have := congrArg List.length h
    rw [List.length_map, List.length_map] at this
    simpa using this
  refine ⟨hl, fun i hi => ?_⟩
  have hz : i < zs.length := hl ▸ hi
  have e := congrArg (fun l => l[i]?) h
  simp only [List.getElem?_map] at e
  rw [show es.toList[i]? = some es[i] by simp [hi], List.getElem?_eq_getElem hz] at e
  have e2 : keyTxt es[i] = some zs[i] := Option.some.inj e
  refine ⟨zs[i], ?_⟩
  unfold keyTxt at e2
  split at e2
  · rename_i x t hk
    exact ⟨t, List.getElem?_eq_getElem hz, by rw [hk, Option.some.inj e2]⟩
  · cases e2
/-- the keys in their order -/
def ItKK (zs : List Str) : It := ⟨fun i _ => i < zs.length, fun i H x H' => H' = H ∧ ∃ z, zs[i]? = some z ∧ x = .str z, fun i _ => zs.length ≤ i⟩
section
variable {P : Program} {w : World} {K : PySem.W.Frag} {tg : Expr}
theorem turn_kk {d it : Addr} {zs : List Str} {es : Array DictEntry} {n : Nat} (hl : K.lookup d = some ⟨.type "dict", none, .dict es n, #[]⟩) (hk : es.toList.map keyTxt = zs.map some) :
    Turn P w K tg (ItKK zs) [it] it (fun i h => h.IsKeyIter it d i es.size n) where
  mem := by simp
  obj := fun i h st b hb => by
    have e : b = it := by simpa using hb
    subst e
    obtain ⟨oi, e, c, dd⟩ := st
    exact ⟨oi, e, fun v z => by rw [dd] at z; cases z⟩
  keep := fun i h h' st k => st.at fun oi e => k it (by simp) oi e
  item := by
    intro X hP hw hK hc i pins s σ H E I hf st hg
    subst hP hw hK
    obtain ⟨f0, f1, f2, f3, f4, f5⟩ := hf it (by simp)
    obtain ⟨hs, hz⟩ := KKeys.at (K := X.K) (d := d) (n := n) hk
    have hi : i < es.size := by
      have : i < zs.length := hg
      omega
    obtain ⟨z, t, e1, e2⟩ := hz i hi
    have raw : s.heap.DictRaw d es n := ⟨_, I.kIn d _ hl, ⟨rfl, rfl, rfl⟩, rfl⟩
    refine wpAny_pyNext_keys_item_raw st raw hi fun h' st' sb => ?_
    have I1 : Inv X pins σ H { s with heap := h' } := I.turned (t' := s.toks) (fun b ob hb e => (sb.2 b hb).trans e) f0 f1 f3 f4 f5
    obtain ⟨oi, e, c, dd⟩ := id st'
    exact ⟨_, rfl, go_of (s := { s with heap := h' }) e c dd (by decide) ⟨.str z, H, I1, ⟨t, e2⟩, ⟨rfl, z, e1, rfl⟩, st', fun b hb => (hf b hb).1⟩⟩
  done := by
    intro X hP hw hK hc i pins s σ H E I hf st hg
    subst hP hw hK
    obtain ⟨f0, f1, f2, f3, f4, f5⟩ := hf it (by simp)
    obtain ⟨hs, hz⟩ := KKeys.at (K := X.K) (d := d) (n := n) hk
    have raw : s.heap.DictRaw d es n := ⟨_, I.kIn d _ hl, ⟨rfl, rfl, rfl⟩, rfl⟩
    have hi : es.size ≤ i := by
      have : zs.length ≤ i := hg
      omega
    exact wpAny_pyNext_keys_end_raw (I.ok.hd hc) st raw hi fun h' eb => ⟨rfl, I.turned (t' := s.toks) (fun b o hb e => eb b o hb e) f0 f1 f3 f4 f5⟩
  self := fun _ _ _ _ _ st h => wpAny_pyIter_keyiter st h
def iKK (K : PySem.W.Frag) (td : TE) : TI := fun σ H R => td σ H fun x H1 => ∃ d zs, x = .ref d ∧ KKeys K d zs ∧ R (ItKK zs) H1
theorem pi_kk {X : Cx} {e : Expr} {td : TE} (he : PE X e td) : PI X tg e (iKK X.K td) := by
  refine ⟨fun pins s σ H R I h => ?_⟩
  refine thn (he.run pins s σ H _ I h) fun u s1 ⟨x, H1, I1, rx, d, zs, ex, ⟨⟨es, n, hl, hk⟩, low⟩, q⟩ => ?_
  subst ex
  obtain rfl : u = Value.ref d := rx
  have raw : s1.heap.DictRaw d es n := ⟨_, I1.kIn d _ hl, ⟨rfl, rfl, rfl⟩, rfl⟩
  exact wpAny_pyIter_dict_raw low raw (pi_one (tk := s1.toks) I1 _ (turn_kk hl hk) ⟨_, Heap.get?_push_size _ rfl, rfl, rfl⟩ q)
end
end Fp

/-! operators and methods that a class of the text defines -/
namespace Fp
open PySem PySem.Spec PyProof.Rows L2
/-- the def m of the class at C -/
def Mn (P : Program) (w : World) (K : PySem.W.Frag) (mg : Str → Option Value) (base : Heap) (k : Nat) (C : Addr) (m : Str) (ps : List Str) (sp : Sp) : Prop :=
  ∃ g fd, Meth K C m g ∧ Binds K fd ps [] ∧ FnOk P w K mg base CX0 k g fd ps sp
section
variable {X : Cx} {k : Nat} {C : Addr} {m : Str} {ps : List Str} {sp : Sp}
theorem pm {pl : Sem Bool} {o e : Expr} {es : List Expr} {pos apos : Pos} {ta : TE} {t : TA} (c : Cls X.K C) (M : Mn X.prog X.w X.K X.mg X.base k C m ps sp) (hr : Room k X.A) (he : PE X o ta) (ha : PA X (e :: es) t)
    (hst : starEach (e :: es) X.env = (false, eval e X.env) :: starEach es X.env := by rfl) (hpl : (backTo pos (starEach es X.env)).any (·.1) = false := by rfl)
    (ht : eval (.Call (.Attribute o m apos) (e :: es) [] pos) X.env = (do
      let ov ← eval o X.env
      standAt apos.atName
      let (f, first) ← holding [ov] (getMethod ov m pl)
      callWith pos f first (backTo pos (starEach (e :: es) X.env)) (backToKw pos (keywordEach [] X.env))) := by rfl) :
    PE X (.Call (.Attribute o m apos) (e :: es) [] pos) (tMeth C m sp [] E0 ta t) := by
  obtain ⟨g, fd, h1, h2, h3⟩ := M
  exact pe_meth he c h1 h3 hr h2 .nil pass0 ha hst hpl ht
theorem pm0 {pl : Sem Bool} {o : Expr} {pos apos : Pos} {ta : TE} (c : Cls X.K C) (M : Mn X.prog X.w X.K X.mg X.base k C m ps sp) (hr : Room k X.A) (he : PE X o ta)
    (ht : eval (.Call (.Attribute o m apos) [] [] pos) X.env = (do
      let ov ← eval o X.env
      standAt apos.atName
      let (f, first) ← holding [ov] (getMethod ov m pl)
      callWith pos f first (backTo pos (starEach [] X.env)) (backToKw pos (keywordEach [] X.env))) := by rfl) :
    PE X (.Call (.Attribute o m apos) [] [] pos) (tMeth C m sp [] E0 ta tNil) := by
  obtain ⟨g, fd, h1, h2, h3⟩ := M
  exact pe_meth0 he c h1 h3 hr h2 .nil pass0 ht
/-- the class x of the text, made by its __init__ -/
def Kn (P : Program) (w : World) (K : PySem.W.Frag) (mg : Str → Option Value) (base : Heap) (k : Nat) (C : Addr) (ps : List Str) (sp : Sp) : Prop :=
  ∃ g fd, Mk K C g ∧ Binds K fd ps [] ∧ FnOk P w K mg base CX0 k g fd ps sp
theorem pk {x : Str} {e : Expr} {es : List Expr} {p pos : Pos} {t : TA} (M : Kn X.prog X.w X.K X.mg X.base k C ps sp) (hr : Room (k + 1) X.A) (hg : Gl X x) (hm : X.mg x = some (.ref C)) (ha : PA X (e :: es) t)
    (hdb : (x == ("__debug__" : Str)) = false := by decide) (he : starEach (e :: es) X.env = (false, eval e X.env) :: starEach es X.env := by rfl) (hpl : (backTo pos (starEach es X.env)).any (·.1) = false := by rfl) :
    PE X (.Call (.Name x p) (e :: es) [] pos) (tMake C sp [] E0 t) := by
  obtain ⟨g, fd, h1, h2, h3⟩ := M
  exact pe_make h1 h3 hr hg hm h2 .nil pass0 ha hdb he hpl
/-- a property of the class at C -/
def Pn (P : Program) (w : World) (K : PySem.W.Frag) (mg : Str → Option Value) (base : Heap) (k : Nat) (C : Addr) (f : Str) (sp : Sp) : Prop :=
  ∃ p g fd ps, PropOf K C f p g ∧ Binds K fd ps [] ∧ FnOk P w K mg base CX0 k g fd ps sp
theorem pq {f : Str} {e : Expr} {pos : Pos} {ta : TE} (c : Cls X.K C) (M : Pn X.prog X.w X.K X.mg X.base k C f sp) (hr : Room (k + 1) X.A) (he : PE X e ta) (hab : attributeBase e f X.env (eval e X.env) = eval e X.env := by rfl) :
    PE X (.Attribute e f pos) (tProp C sp [] E0 ta) := by
  obtain ⟨p, g, fd, ps, h1, h2, h3⟩ := M
  exact pe_prop he c h1 h3 hr h2 .nil pass0 hab
theorem inst_of {pins : List (Addr × Obj)} {σ : L2.St} {H : Hp} {s : Shared} {a dx : Addr} {fs : List (Str × V)} (I : Inv X pins σ H s) (e : H a = some (.ins C dx fs)) : ∃ od, PySem.W.InstAt s.heap a (PySem.W.instObj C dx) C (some od) := by
  obtain ⟨mA, O, _⟩ := ins_get I.hok e
  obtain ⟨od, J, _⟩ := O.look
  exact ⟨od, J⟩
/-- v in x, x an instance of the class at C -/
def rOwnIn (C : Addr) (neg : Bool) (sp : Sp) : R2 := fun x y H Q => ∃ a dx fs, y = .ref a ∧ H a = some (.ins C dx fs) ∧ sp [.ref a, x] H (fun v H' => ∃ b, v = .bl b ∧ Q (.bl (if neg then !b else b)) H') E0
theorem op_ownIn (M : Mn X.prog X.w X.K X.mg X.base k C "__contains__" ps sp) (hr : Room k X.A) : OpR X (compareOp .In) (rOwnIn C false sp) := by
  intro pins s σ H x y v u Q I rx ry h
  obtain ⟨a, dx, fs, rfl, ha, q⟩ := h
  obtain rfl : u = Value.ref a := ry
  obtain ⟨g, fd, h1, h2, h3⟩ := M
  obtain ⟨od, J⟩ := inst_of I ha
  obtain ⟨m, hF⟩ := I.fr
  refine PySem.W.in_K hF I.ok.mod.kin J h1.at_ h1.fn ?_
  refine wpAny_mono (run_fn (us := [.ref a, v]) (vs := [.ref a, x]) (dvs := []) h3 hr h2 .nil pass0 I (.cons rfl (.cons rx .nil)) q) (fun w s' z => ?_) fun _ _ x => x
  obtain ⟨z', H', I', rz, b, rfl, qz⟩ := z
  cases rz
  exact wpAny_truthy_bool ⟨.bl b, H', I', rfl, qz⟩
theorem op_ownNotIn (M : Mn X.prog X.w X.K X.mg X.base k C "__contains__" ps sp) (hr : Room k X.A) : OpR X (compareOp .NotIn) (rOwnIn C true sp) := by
  intro pins s σ H x y v u Q I rx ry h
  obtain ⟨a, dx, fs, rfl, ha, q⟩ := h
  obtain rfl : u = Value.ref a := ry
  obtain ⟨g, fd, h1, h2, h3⟩ := M
  obtain ⟨od, J⟩ := inst_of I ha
  obtain ⟨m, hF⟩ := I.fr
  refine PySem.W.notIn_K hF I.ok.mod.kin J h1.at_ h1.fn ?_
  refine wpAny_mono (run_fn (us := [.ref a, v]) (vs := [.ref a, x]) (dvs := []) h3 hr h2 .nil pass0 I (.cons rfl (.cons rx .nil)) q) (fun w s' z => ?_) fun _ _ x => x
  obtain ⟨z', H', I', rz, b, rfl, qz⟩ := z
  cases rz
  exact wpAny_truthy_bool ⟨.bl (!b), H', I', rfl, qz⟩
/-- x op y, both instances of the class at C, a comparison -/
def rOwn2 (C : Addr) (sp : Sp) : R2 := fun x y H Q => ∃ a dx fs b dy gs, x = .ref a ∧ y = .ref b ∧ H a = some (.ins C dx fs) ∧ H b = some (.ins C dy gs) ∧ sp [.ref a, .ref b] H Q E0
theorem op_ownCmp {op : CmpOp} (hop : ∀ a b, compareOp op a b = richCompare op a b) (hn : PySem.W.notFirst X.K C (.ref C) = true) (M : Mn X.prog X.w X.K X.mg X.base k C (cmpInfo op).2.1 ps sp) (hr : Room k X.A) : OpR X (compareOp op) (rOwn2 C sp) := by
  intro pins s σ H x y v u Q I rx ry h
  obtain ⟨a, dx, fs, b, dy, gs, rfl, rfl, ha, hb, q⟩ := h
  obtain rfl : v = Value.ref a := rx
  obtain rfl : u = Value.ref b := ry
  obtain ⟨g, fd, h1, h2, h3⟩ := M
  obtain ⟨od, J⟩ := inst_of I ha
  obtain ⟨od', J'⟩ := inst_of I hb
  obtain ⟨m, hF⟩ := I.fr
  rw [hop]
  refine PySem.W.cmp_K (op := op) (tb := .ref C) hr.units0 hF I.ok.mod.kin J J'.type hn h1.at_ h1.fn ?_
  refine wpAny_mono (run_fn (us := [.ref a, .ref b]) (vs := [.ref a, .ref b]) (dvs := []) h3 hr h2 .nil pass0 I (.cons rfl (.cons rfl .nil)) q) (fun w s' z => ?_) fun _ _ x => x
  obtain ⟨z', H', I', rz, qz⟩ := z
  exact SlX.cmpback rz ⟨z', H', I', rz, qz⟩
theorem op_ownBin {op : Operator} (hc : PySem.W.selfFirst X.K C = true) (M : Mn X.prog X.w X.K X.mg X.base k C (PySem.dunder op.info.2) ps sp) (hr : Room k X.A) : OpR X (binaryOp op) (rOwn2 C sp) := by
  intro pins s σ H x y v u Q I rx ry h
  obtain ⟨a, dx, fs, b, dy, gs, rfl, rfl, ha, hb, q⟩ := h
  obtain rfl : v = Value.ref a := rx
  obtain rfl : u = Value.ref b := ry
  obtain ⟨g, fd, h1, h2, h3⟩ := M
  obtain ⟨od, J⟩ := inst_of I ha
  obtain ⟨od', J'⟩ := inst_of I hb
  obtain ⟨m, hF⟩ := I.fr
  refine PySem.W.binop_K (op := op) hF I.ok.mod.kin J J'.type hc h1.at_ h1.fn ?_
  refine wpAny_mono (run_fn (us := [.ref a, .ref b]) (vs := [.ref a, .ref b]) (dvs := []) h3 hr h2 .nil pass0 I (.cons rfl (.cons rfl .nil)) q) (fun w s' z => ?_) fun _ _ x => x
  obtain ⟨z', H', I', rz, qz⟩ := z
  exact SlX.cmpback rz ⟨z', H', I', rz, qz⟩
end
end Fp

/-! loops and comprehensions over a row of values -/
namespace Fp
open PySem PySem.Spec PyProof.Rows L2
/-- the iterator gives the values xs, one a turn, while S holds of the heap -/
structure JSeq (J : It) (xs : List V) (S : Hp → Prop) : Prop where
  go : ∀ i H, S H → i < xs.length → J.go i H
  yld : ∀ i H x H', S H → i < xs.length → J.yld i H x H' → H' = H ∧ xs[i]? = some x
  stop : ∀ i H, S H → xs.length ≤ i → J.stop i H
  same : ∀ H H', S H → Same H H' → S H'
theorem jseq_list (K : PySem.W.Frag) (a : Addr) (xs : List V) : JSeq (Itl K a) xs (fun H => SqL K H a xs) :=
  ⟨fun i H h hi => ⟨xs, xs[i], h, List.getElem?_eq_getElem hi⟩, fun i H x H' h _ y => ⟨y.1, y.2 xs h⟩, fun i H h hi => ⟨xs, h, hi⟩, fun H H' h e => e.seq h⟩
theorem same_tup {K : PySem.W.Frag} {H H' : Hp} {a : Addr} {xs : List V} (e : Same H H') (h : SqT K H a xs) : SqT K H' a xs := by
  rcases h with (h | ⟨o, h⟩) | h
  · exact .inl (.inl (e _ _ h))
  · exact .inl (.inr ⟨o, e _ _ h⟩)
  · exact .inr h
theorem jseq_tup (K : PySem.W.Frag) (a : Addr) (xs : List V) : JSeq (Itt K a) xs (fun H => SqT K H a xs) :=
  ⟨fun i H h hi => ⟨xs, xs[i], h, List.getElem?_eq_getElem hi⟩, fun i H x H' h _ y => ⟨y.1, y.2 xs h⟩, fun i H h hi => ⟨xs, h, hi⟩, fun H H' h e => same_tup e h⟩
theorem jseq_kk (zs : List Str) : JSeq (ItKK zs) (zs.map V.str) (fun _ => True) :=
  ⟨fun i H h hi => by rw [List.length_map] at hi; exact hi, fun i H x H' h _ y => by
    obtain ⟨e, z, h1, rfl⟩ := y
    exact ⟨e, by rw [List.getElem?_map, h1]; rfl⟩, fun i H h hi => by rw [List.length_map] at hi; exact hi, fun _ _ h _ => h⟩
def rngV (lo : Int) (n : Nat) : List V := (List.range n).map fun (i : Nat) => V.int (lo + i)
theorem rngV_len (lo : Int) (n : Nat) : (rngV lo n).length = n := by
  unfold rngV
  rw [List.length_map, List.length_range]
theorem rngV_at {lo : Int} {n i : Nat} (h : i < n) : (rngV lo n)[i]? = some (.int (lo + i)) := by
  unfold rngV
  rw [List.getElem?_map, List.getElem?_range h]
  rfl
theorem jseq_rng (lo : Int) (n : Nat) : JSeq (Itr lo n) (rngV lo n) (fun _ => True) :=
  ⟨fun i H _ hi => by rw [rngV_len] at hi; exact hi, fun i H x H' _ hi y => by
    obtain ⟨h1, h2⟩ := y
    rw [rngV_len] at hi
    exact ⟨h1, by rw [rngV_at hi, h2]⟩, fun i H _ hi => by rw [rngV_len] at hi; exact hi, fun _ _ h _ => h⟩

/-! ### the walk, once the iterator is there -/
def LcG (J : It) (g : TG) (tt : TT) (te : TE) (vs : List Nat) (σ : L2.St) (H : Hp) (Q : VK) : Prop := tLc (fun _ H R => R J H) g tt te vs σ H Q
def ForG (J : It) (g : TG) (tb : TS) (D : Ends) (σ : L2.St) (H : Hp) : Prop := tFor (fun _ H R => R J H) g tb D σ H
section
variable {K : PySem.W.Frag} {tl : TE} {ta : TA} {g : TG} {tt : TT} {te : TE} {tb : TS} {D : Ends} {vs : List Nat} {σ : L2.St} {H : Hp} {Q : VK}
theorem lc_iL : tLc (iList K tl) g tt te vs σ H Q = tl σ H (fun x H1 => ∃ a, x = .ref a ∧ (∃ xs, SqL K H1 a xs) ∧ LcG (Itl K a) g tt te vs σ H1 Q) := rfl
theorem lc_iT : tLc (iTup K tl) g tt te vs σ H Q = tl σ H (fun x H1 => ∃ a, x = .ref a ∧ (∃ xs, SqT K H1 a xs) ∧ LcG (Itt K a) g tt te vs σ H1 Q) := rfl
theorem lc_iK : tLc (iKK K tl) g tt te vs σ H Q = tl σ H (fun x H1 => ∃ d zs, x = .ref d ∧ KKeys K d zs ∧ LcG (ItKK zs) g tt te vs σ H1 Q) := rfl
theorem lc_iR : tLc (iRng1 ta) g tt te vs σ H Q = ta σ H (fun zs H1 => ∃ j : Int, zs = [.int j] ∧ -(2 ^ 62) ≤ j ∧ j < 2 ^ 62 ∧ LcG (Itr 0 j.toNat) g tt te vs σ H1 Q) := rfl
theorem fr_iL : tFor (iList K tl) g tb D σ H = tl σ H (fun x H1 => ∃ a, x = .ref a ∧ (∃ xs, SqL K H1 a xs) ∧ ForG (Itl K a) g tb D σ H1) := rfl
theorem fr_iT : tFor (iTup K tl) g tb D σ H = tl σ H (fun x H1 => ∃ a, x = .ref a ∧ (∃ xs, SqT K H1 a xs) ∧ ForG (Itt K a) g tb D σ H1) := rfl
theorem fr_iR : tFor (iRng1 ta) g tb D σ H = ta σ H (fun zs H1 => ∃ j : Int, zs = [.int j] ∧ -(2 ^ 62) ≤ j ∧ j < 2 ^ 62 ∧ ForG (Itr 0 j.toNat) g tb D σ H1) := rfl
variable {J : It} {xs : List V} {S : Hp → Prop}
/-- a comprehension by a word P of: the turn, the list so far (it stands at D), the heap -/
theorem lcg_by (hJ : JSeq J xs S) (P : Addr → Nat → List V → Hp → Prop) (h0 : ∀ D, H D = none → P D 0 [] (upd H D (.lst [])))
    (hP : ∀ D i acc H', H D = none → i ≤ xs.length → P D i acc H' → S H')
    (hs : ∀ D i x acc H', H D = none → xs[i]? = some x → P D i acc H' → g x (wipe σ vs) H' fun σ2 H2 => wipe σ2 vs = wipe σ vs ∧ tt σ2 H2 fun b H3 =>
      if b = true then te σ2 H3 fun y H4 => ∃ acc, H4 D = some (.lst acc) ∧ acc.length < sizeLine ∧ (∃ acc', P D (i + 1) acc' (upd H4 D (.lst (acc ++ [y])))) else ∃ acc', P D (i + 1) acc' H3)
    (hd : ∀ D acc H', H D = none → P D xs.length acc H' → Q (.ref D) H') : LcG J g tt te vs σ H Q := by
  intro D hD
  refine ⟨fun i m H' => m = xs.length - i ∧ i ≤ xs.length ∧ ∃ acc, P D i acc H', ⟨xs.length, by simp, Nat.zero_le _, [], h0 D hD⟩, ?_⟩
  rintro i m H' ⟨rfl, hi, acc, p⟩
  have hS := hP D i acc H' hD hi p
  by_cases hlt : i < xs.length
  · refine .inr ⟨hJ.go i H' hS hlt, fun H'' => ∃ acc, P D (i + 1) acc H'', fun H'' ⟨acc', p'⟩ => ⟨xs.length - (i + 1), by omega, rfl, hlt, acc', p'⟩, fun x H'' y => ?_⟩
    obtain ⟨rfl, hx⟩ := hJ.yld i H' x H'' hS hlt y
    exact hs D i x acc _ hD hx p
  · have e : i = xs.length := by omega
    subst e
    exact .inl ⟨hJ.stop _ H' hS (Nat.le_refl _), hd D acc H' hD p⟩
theorem filter_map_take {fb : V → Bool} {fv : V → V} {i : Nat} {x : V} (hx : xs[i]? = some x) :
    ((xs.take (i + 1)).filter fb).map fv = ((xs.take i).filter fb).map fv ++ (if fb x = true then [fv x] else []) := by
  rw [List.take_add_one, hx, List.filter_append, List.map_append]
  cases h : fb x with
  | true => simp [h]
  | false => simp [h]
/-- a comprehension whose tests and items change nothing that stands -/
theorem lcg_pure (hJ : JSeq J xs S) (hS : S H) (hz : xs.length < 100000) (fb : V → Bool) (fv : V → V)
    (hs : ∀ x, x ∈ xs → ∀ H', Same H H' → ∀ (R1 : V → Hp → Prop) (R0 : Hp → Prop), (fb x = true → ∀ H'', Same H' H'' → R1 (fv x) H'') → (fb x = false → ∀ H'', Same H' H'' → R0 H'') →
      g x (wipe σ vs) H' fun σ2 H2 => wipe σ2 vs = wipe σ vs ∧ tt σ2 H2 fun b H3 => if b = true then te σ2 H3 R1 else R0 H3)
    (hd : ∀ D H', H D = none → Same H H' → H' D = some (.lst ((xs.filter fb).map fv)) → Q (.ref D) H') : LcG J g tt te vs σ H Q := by
  refine lcg_by hJ (fun D i acc H' => Same H H' ∧ H' D = some (.lst acc) ∧ acc = ((xs.take i).filter fb).map fv) (fun D hD => ⟨same_new hD, upd_same, rfl⟩)
    (fun D i acc H' _ _ p => hJ.same _ _ hS p.1) (fun D i x acc H' hD hx p => ?_) (fun D acc H' hD p => ?_)
  · obtain ⟨p1, p2, rfl⟩ := p
    have hi : i < xs.length := (List.getElem?_eq_some_iff.mp hx).1
    refine hs x (List.mem_of_getElem? hx) H' p1 _ _ (fun hb H'' e => ?_) (fun hb H'' e => ?_)
    · refine ⟨((xs.take i).filter fb).map fv, e _ _ p2, ?_, _, Same.mut (p1.trans e) hD, upd_same, ?_⟩
      · refine Nat.lt_of_lt_of_le (Nat.lt_of_le_of_lt (?_ : _ ≤ xs.length) hz) (by decide)
        rw [List.length_map]
        exact Nat.le_trans (List.length_filter_le _ _) (by rw [List.length_take]; exact Nat.min_le_right _ _)
      · rw [filter_map_take hx, if_pos hb]
    · refine ⟨_, p1.trans e, e _ _ p2, ?_⟩
      rw [filter_map_take hx, if_neg (by rw [hb]; decide), List.append_nil]
  · obtain ⟨p1, p2, rfl⟩ := p
    rw [List.take_length] at p2
    exact hd D H' hD p1 p2
/-- a for by a word P of: the turn, the slots, the heap -/
theorem forg_by (hJ : JSeq J xs S) (P : Nat → L2.St → Hp → Prop) (h0 : P 0 σ H) (hP : ∀ i σ' H', i ≤ xs.length → P i σ' H' → S H')
    (hs : ∀ i x σ' H', xs[i]? = some x → P i σ' H' → g x σ' H' fun σ2 H2 => tb { D with nx := P (i + 1), ct := P (i + 1), bk := D.nx } σ2 H2) (hd : ∀ σ' H', P xs.length σ' H' → D.nx σ' H') : ForG J g tb D σ H := by
  refine ⟨fun i m σ' H' => m = xs.length - i ∧ i ≤ xs.length ∧ P i σ' H', ⟨xs.length, by simp, Nat.zero_le _, h0⟩, ?_⟩
  rintro i m σ' H' ⟨rfl, hi, p⟩
  have hS := hP i σ' H' hi p
  by_cases hlt : i < xs.length
  · refine .inr ⟨hJ.go i H' hS hlt, P (i + 1), fun σ'' H'' p' => ⟨xs.length - (i + 1), by omega, rfl, hlt, p'⟩, fun x H'' y => ?_⟩
    obtain ⟨rfl, hx⟩ := hJ.yld i H' x H'' hS hlt y
    exact hs i x σ' _ hx p
  · have e : i = xs.length := by omega
    subst e
    exact .inl ⟨hJ.stop _ H' hS (Nat.le_refl _), hd σ' H' p⟩
end
end Fp

/-! data that stands in the heap: lists and tuples of ints, texts, bools, None, nested -/
namespace Fp
open PySem PySem.Spec PyProof.Rows L2
mutual
inductive Dt (H : Hp) : V → PyData → Prop
  | non : Dt H .non .none
  | bl (b : Bool) : Dt H (.bl b) (.bool b)
  | int (i : Int) : Dt H (.int i) (.int i)
  | str (x : Str) : Dt H (.str x) (.str x)
  | lst {a : Addr} {xs : List V} {ds : List PyData} : H a = some (.lst xs) → Dts H xs ds → Dt H (.ref a) (.list ds)
  | tup {a : Addr} {xs : List V} {ds : List PyData} : H a = some (.tup xs) → Dts H xs ds → Dt H (.ref a) (.tuple ds)
inductive Dts (H : Hp) : List V → List PyData → Prop
  | nil : Dts H [] []
  | cons {v : V} {vs : List V} {d : PyData} {ds : List PyData} : Dt H v d → Dts H vs ds → Dts H (v :: vs) (d :: ds)
end
mutual
theorem Dt.same {H H' : Hp} (e : Same H H') : ∀ {d : PyData} {v : V}, Dt H v d → Dt H' v d
  | .none, _, .non => .non
  | .bool _, _, .bl b => .bl b
  | .int _, _, .int i => .int i
  | .str _, _, .str x => .str x
  | .list ds, _, .lst h t => .lst (e _ _ h) (Dts.same e t)
  | .tuple ds, _, .tup h t => .tup (e _ _ h) (Dts.same e t)
theorem Dts.same {H H' : Hp} (e : Same H H') : ∀ {ds : List PyData} {vs : List V}, Dts H vs ds → Dts H' vs ds
  | [], _, .nil => .nil
  | _ :: _, _, .cons h t => .cons (Dt.same e h) (Dts.same e t)
end
mutual
/-- a dict that changes is no part of data -/
theorem Dt.but {H H' : Hp} {p : Addr} {kvs : List (Key × V)} (hp : H p = some (.dK kvs)) (e : But p H H') : ∀ {d : PyData} {v : V}, Dt H v d → Dt H' v d
  | .none, _, .non => .non
  | .bool _, _, .bl b => .bl b
  | .int _, _, .int i => .int i
  | .str _, _, .str x => .str x
  | .list ds, _, .lst h t => .lst (e.1 _ _ h (ne_of h hp (by intro z; cases z))) (Dts.but hp e t)
  | .tuple ds, _, .tup h t => .tup (e.1 _ _ h (ne_of h hp (by intro z; cases z))) (Dts.but hp e t)
theorem Dts.but {H H' : Hp} {p : Addr} {kvs : List (Key × V)} (hp : H p = some (.dK kvs)) (e : But p H H') : ∀ {ds : List PyData} {vs : List V}, Dts H vs ds → Dts H' vs ds
  | [], _, .nil => .nil
  | _ :: _, _, .cons h t => .cons (Dt.but hp e h) (Dts.but hp e t)
end
mutual
theorem Dt.dp {K : PySem.W.Frag} {H : Hp} : ∀ {d : PyData} {v : V}, Dt H v d → Dp K H v d
  | .none, _, .non => .non
  | .bool _, _, .bl b => .bl b
  | .int _, _, .int i => .int i
  | .str _, _, .str x => .str x
  | .list ds, _, .lst h t => .lst (.inl (.inl h)) (Dts.dp t)
  | .tuple ds, _, .tup h t => .tup (.inl (.inl h)) (Dts.dp t)
theorem Dts.dp {K : PySem.W.Frag} {H : Hp} : ∀ {ds : List PyData} {vs : List V}, Dts H vs ds → DpAll K H vs ds
  | [], _, .nil => .nil
  | _ :: _, _, .cons h t => .cons (Dt.dp h) (Dts.dp t)
end
theorem Dts.len {H : Hp} : ∀ {ds : List PyData} {vs : List V}, Dts H vs ds → vs.length = ds.length
  | _, _, .nil => rfl
  | _, _, .cons _ t => by rw [List.length_cons, List.length_cons, Dts.len t]
theorem Dts.app {H : Hp} : ∀ {ds es : List PyData} {vs ws : List V}, Dts H vs ds → Dts H ws es → Dts H (vs ++ ws) (ds ++ es)
  | _, _, _, _, .nil, s => s
  | _, _, _, _, .cons h t, s => .cons h (Dts.app t s)
theorem Dts.get {H : Hp} : ∀ {ds : List PyData} {vs : List V} {i : Nat} {d : PyData}, Dts H vs ds → ds[i]? = some d → ∃ v, vs[i]? = some v ∧ Dt H v d
  | _, _, i, d, .nil, h => by simp at h
  | _, _, 0, d, .cons h t, e => by cases e; exact ⟨_, rfl, h⟩
  | _, _, i + 1, d, .cons h t, e => Dts.get (i := i) t e
theorem Dts.erase {H : Hp} : ∀ {ds : List PyData} {vs : List V} (i : Nat), Dts H vs ds → Dts H (vs.eraseIdx i) (ds.eraseIdx i)
  | _, _, _, .nil => .nil
  | _, _, 0, .cons _ t => t
  | _, _, i + 1, .cons h t => .cons h (Dts.erase i t)
theorem Dts.strs {H : Hp} : ∀ {zs : List Str} {vs : List V}, Dts H vs (zs.map PyData.str) → vs = zs.map V.str
  | [], _, .nil => rfl
  | z :: r, _, .cons (.str _) t => by rw [Dts.strs t]; rfl
theorem Dts.ints {H : Hp} : ∀ {zs : List Int} {vs : List V}, Dts H vs (zs.map PyData.int) → vs = zs.map V.int
  | [], _, .nil => rfl
  | z :: r, _, .cons (.int _) t => by rw [Dts.ints t]; rfl
theorem dts_strs {H : Hp} : ∀ zs : List Str, Dts H (zs.map V.str) (zs.map PyData.str)
  | [] => .nil
  | z :: r => .cons (.str z) (dts_strs r)
theorem dts_ints {H : Hp} : ∀ zs : List Int, Dts H (zs.map V.int) (zs.map PyData.int)
  | [] => .nil
  | z :: r => .cons (.int z) (dts_ints r)

theorem Dt.pair {H : Hp} {v : V} {d e : PyData} (h : Dt H v (.tuple [d, e])) : ∃ a x y, v = .ref a ∧ H a = some (.tup [x, y]) ∧ Dt H x d ∧ Dt H y e := by
  cases h with
  | tup h1 t1 =>
    cases t1 with
    | cons h2 t2 =>
      cases t2 with
      | cons h3 t3 =>
        cases t3
        exact ⟨_, _, _, rfl, h1, h2, h3⟩
theorem Dt.txt {H : Hp} {v : V} {z : Str} (h : Dt H v (.str z)) : v = .str z := by
  cases h
  rfl
theorem Dt.num {H : Hp} {v : V} {z : Int} (h : Dt H v (.int z)) : v = .int z := by
  cases h
  rfl
theorem Dt.list {H : Hp} {v : V} {ds : List PyData} (h : Dt H v (.list ds)) : ∃ a xs, v = .ref a ∧ H a = some (.lst xs) ∧ Dts H xs ds := by
  cases h with
  | lst h1 t1 => exact ⟨_, _, rfl, h1, t1⟩
theorem Dt.tuple {H : Hp} {v : V} {ds : List PyData} (h : Dt H v (.tuple ds)) : ∃ a xs, v = .ref a ∧ H a = some (.tup xs) ∧ Dts H xs ds := by
  cases h with
  | tup h1 t1 => exact ⟨_, _, rfl, h1, t1⟩

/-! ### what evaluates to data, leaving all that stands -/
def EvD (te : TE) (σ : L2.St) (H : Hp) (d : PyData) : Prop := ∀ H1, Same H H1 → ∀ Q : VK, (∀ v H2, Same H1 H2 → Dt H2 v d → Q v H2) → te σ H1 Q
def EvDs (ta : TA) (σ : L2.St) (H : Hp) (ds : List PyData) : Prop := ∀ H1, Same H H1 → ∀ Q : List V → Hp → Prop, (∀ vs H2, Same H1 H2 → Dts H2 vs ds → Q vs H2) → ta σ H1 Q
section
variable {K : PySem.W.Frag} {σ : L2.St} {H H' : Hp} {ta tb te : TE} {tr : TA} {d e : PyData} {ds es : List PyData}
theorem d_str {z : Str} : EvD (tC (.str z)) σ H (.str z) := fun H1 _ Q q => q _ H1 (Same.refl _) (.str z)
theorem d_int {z : Int} : EvD (tC (.int z)) σ H (.int z) := fun H1 _ Q q => q _ H1 (Same.refl _) (.int z)
theorem d_non : EvD (tC .non) σ H .none := fun H1 _ Q q => q _ H1 (Same.refl _) .non
theorem d_var {i : Nat} {v : V} (h : σ[i]? = some (some v)) (hd : Dt H v d) : EvD (tVar i) σ H d := fun H1 e Q q => ⟨v, h, q _ H1 (Same.refl _) (hd.same e)⟩
theorem d_nil : EvDs tNil σ H [] := fun H1 _ Q q => q _ H1 (Same.refl _) .nil
theorem d_cons (h : EvD ta σ H d) (t : EvDs tr σ H ds) : EvDs (tCons ta tr) σ H (d :: ds) := fun H1 e1 Q q =>
  h H1 e1 _ fun v H2 e2 hv => t H2 (e1.trans e2) _ fun vs H3 e3 hvs => q _ H3 (e2.trans e3) (.cons (hv.same e3) hvs)
theorem d_tup (t : EvDs tr σ H ds) (hl : ds.length ≤ 1000) : EvD (tTup tr) σ H (.tuple ds) := fun H1 e1 Q q =>
  t H1 e1 _ fun vs H2 e2 hvs => ⟨Nat.le_of_lt (small1000 (by rw [hvs.len]; exact hl)), fun p hp => q _ _ (Same.new e2 hp) (.tup upd_same (hvs.same (same_new hp)))⟩
theorem d_lst (t : EvDs tr σ H ds) (hl : ds.length ≤ 1000) : EvD (tLst tr) σ H (.list ds) := fun H1 e1 Q q =>
  t H1 e1 _ fun vs H2 e2 hvs => ⟨Nat.le_of_lt (small1000 (by rw [hvs.len]; exact hl)), fun p hp => q _ _ (Same.new e2 hp) (.lst upd_same (hvs.same (same_new hp)))⟩
theorem d_cat (ha : EvD ta σ H (.list ds)) (hb : EvD tb σ H (.list es)) (hl : ds.length + es.length ≤ 1000) : EvD (tOp rCat ta tb) σ H (.list (ds ++ es)) := fun H1 e1 Q q =>
  ha H1 e1 _ fun v H2 e2 hv => hb H2 (e1.trans e2) _ fun w H3 e3 hw => by
    cases hv with
    | lst h1 t1 =>
      cases hw with
      | lst h2 t2 =>
        exact ⟨_, _, _, _, rfl, rfl, e3 _ _ h1, h2, Nat.le_of_lt (small1000 (by rw [t1.len, t2.len]; exact hl)), fun p hp => q _ _ (Same.new (e2.trans e3) hp) (.lst upd_same (((t1.same e3).app t2).same (same_new hp)))⟩
theorem EvD.mono (h : EvD te σ H d) (e : Same H H') : EvD te σ H' d := fun H1 e1 Q q => h H1 (e.trans e1) Q q
theorem EvD.go {Q : VK} (h : EvD te σ H d) (q : ∀ v H2, Same H H2 → Dt H2 v d → Q v H2) : te σ H Q := h H (Same.refl _) Q q
/-- a call of a def that gives data -/
theorem d_call {sp : Sp} (h : EvDs tr σ H ds) (hs : ∀ vs H1, Same H H1 → Dts H1 vs ds → ∀ Q : VK, (∀ v H2, Same H1 H2 → Dt H2 v d → Q v H2) → sp vs H1 Q E0) : EvD (tCall sp [] E0 tr) σ H d := fun H1 e1 Q q =>
  h H1 e1 _ fun vs H2 e2 hvs => by
    rw [List.append_nil]
    exact hs vs H2 (e1.trans e2) hvs Q fun v H3 e3 hv => q v H3 (e2.trans e3) hv
end
section
variable {σ : L2.St} {H : Hp} {D : Ends} {te : TE} {d : PyData} {u : TS} {i : Nat}
theorem s_asgD (h : EvD te σ H d) (k : ∀ v H1, Same H H1 → Dt H1 v d → D.nx (σ.set i (some v)) H1) : tAsg te (gName i) D σ H := h.go fun v H1 e hv => k v H1 e hv
theorem q_asgD (h : EvD te σ H d) (k : ∀ v H1, Same H H1 → Dt H1 v d → u D (σ.set i (some v)) H1) : tSeq (tAsg te (gName i)) u D σ H := h.go fun v H1 e hv => k v H1 e hv
theorem s_retD (h : EvD te σ H d) (k : ∀ v H1, Same H H1 → Dt H1 v d → D.rt v H1) : tRet te D σ H := h.go fun v H1 e hv => k v H1 e hv
end
theorem eq_nilD {K : PySem.W.Frag} {H : Hp} {v : V} {q : Addr} {ds : List PyData} {Q : VK} (h : Dt H v (.list ds)) (hs : SeqAt.shaped (.list ds) = true) (hq : H q = some (.lst [])) (k : Q (.bl ds.isEmpty) H) : rEqD K v (.ref q) H Q := by
  obtain ⟨a, xs, rfl, ha, ht⟩ := h.list
  refine eq_nil (.inl (.inl ha)) ht.dp hs hq ?_
  have hl := ht.len
  cases ds with
  | nil => rw [List.length_eq_zero_iff.mp hl]; exact k
  | cons d r =>
    cases xs with
    | nil => cases hl
    | cons x y => exact k
theorem ne_nilD {K : PySem.W.Frag} {H : Hp} {v : V} {q : Addr} {ds : List PyData} {Q : VK} (h : Dt H v (.list ds)) (hs : SeqAt.shaped (.list ds) = true) (hq : H q = some (.lst [])) (k : Q (.bl (!ds.isEmpty)) H) : rNeD K v (.ref q) H Q := by
  obtain ⟨a, xs, rfl, ha, ht⟩ := h.list
  refine ne_nil (.inl (.inl ha)) ht.dp hs hq ?_
  have hl := ht.len
  cases ds with
  | nil => rw [List.length_eq_zero_iff.mp hl]; exact k
  | cons d r =>
    cases xs with
    | nil => cases hl
    | cons x y => exact k
/-! ### texts in lists -/
theorem flat_strs (zs : List Str) : (zs.map V.str).all flatV = true := by
  rw [List.all_map]
  exact List.all_eq_true.mpr fun z _ => rfl
theorem inV_strs (z : Str) (zs : List Str) : inV (.str z) (zs.map V.str) = decide (z ∈ zs) := by
  unfold inV
  rw [List.any_map]
  induction zs with
  | nil => rfl
  | cons y r ih =>
    rw [List.any_cons, ih]
    by_cases h : z = y
    · subst h
      simp [eqV]
    · simp [eqV, h]
      intro e
      exact absurd e.symm h
/-! ### comprehensions over data, whose items stood before -/
section
variable {K : PySem.W.Frag} {g : TG} {tt : TT} {te : TE} {vs : List Nat} {σ : L2.St} {H : Hp} {Q : VK} {J : It} {xs : List V} {S : Hp → Prop} {α : Type}
theorem lcg_old (hJ : JSeq J xs S) (hS : S H) (as : List α) (dat : α → PyData) (hxs : Dts H xs (as.map dat)) (hz : as.length < 100000) (fb : α → Bool) (fv : α → PyData)
    (hs : ∀ x a, a ∈ as → Dt H x (dat a) → ∀ H', Same H H' → ∀ (R1 : V → Hp → Prop) (R0 : Hp → Prop), (fb a = true → ∀ v H'', Same H' H'' → Dt H v (fv a) → R1 v H'') → (fb a = false → ∀ H'', Same H' H'' → R0 H'') →
      g x (wipe σ vs) H' fun σ2 H2 => wipe σ2 vs = wipe σ vs ∧ tt σ2 H2 fun b H3 => if b = true then te σ2 H3 R1 else R0 H3)
    (hd : ∀ D H', H D = none → Same H H' → Dt H' (.ref D) (.list ((as.filter fb).map fv)) → Q (.ref D) H') : LcG J g tt te vs σ H Q := by
  have hlen : xs.length = as.length := by rw [hxs.len, List.length_map]
  refine lcg_by hJ (fun D i acc H' => Same H H' ∧ H' D = some (.lst acc) ∧ Dts H acc (((as.take i).filter fb).map fv)) (fun D hD => ⟨same_new hD, upd_same, .nil⟩)
    (fun D i acc H' _ _ p => hJ.same _ _ hS p.1) (fun D i x acc H' hD hx p => ?_) (fun D acc H' hD p => ?_)
  · obtain ⟨p1, p2, p3⟩ := p
    have hi : i < as.length := hlen ▸ (List.getElem?_eq_some_iff.mp hx).1
    have ha : as[i]? = some as[i] := List.getElem?_eq_getElem hi
    obtain ⟨x', hx', hdx⟩ := hxs.get (i := i) (d := dat as[i]) (by rw [List.getElem?_map, ha]; rfl)
    rw [hx] at hx'
    cases hx'
    have tk : (((as.take (i + 1)).filter fb).map fv) = ((as.take i).filter fb).map fv ++ (if fb as[i] = true then [fv as[i]] else []) := by
      rw [List.take_add_one, ha, List.filter_append, List.map_append]
      cases h : fb as[i] with
      | true => simp [h]
      | false => simp [h]
    refine hs x as[i] (List.getElem_mem hi) hdx H' p1 _ _ (fun hb v H'' e hv => ?_) (fun hb H'' e => ?_)
    · refine ⟨acc, e _ _ p2, ?_, acc ++ [v], Same.mut (p1.trans e) hD, upd_same, ?_⟩
      · refine Nat.lt_of_lt_of_le (Nat.lt_of_le_of_lt (?_ : _ ≤ as.length) hz) (by decide)
        rw [p3.len, List.length_map]
        exact Nat.le_trans (List.length_filter_le _ _) (by rw [List.length_take]; exact Nat.min_le_right _ _)
      · rw [tk, if_pos hb]
        exact p3.app (.cons hv .nil)
    · refine ⟨acc, p1.trans e, e _ _ p2, ?_⟩
      rw [tk, if_neg (by rw [hb]; decide), List.append_nil]
      exact p3
  · obtain ⟨p1, p2, p3⟩ := p
    rw [hlen, List.take_length] at p3
    exact hd D H' hD p1 (.lst p2 (p3.same p1))
end
/-- a promise: from data to data -/
def spD (F : List PyData → Option PyData) : Sp := fun vs H Q _ => ∃ ds d, Dts H vs ds ∧ F ds = some d ∧ ∀ v H', Same H H' → Dt H' v d → Q v H'
theorem d_callF {σ : L2.St} {H : Hp} {tr : TA} {ds : List PyData} {d : PyData} {F : List PyData → Option PyData} (h : EvDs tr σ H ds) (hF : F ds = some d) : EvD (tCall (spD F) [] E0 tr) σ H d :=
  d_call h fun vs H1 e1 hvs Q q => ⟨ds, d, hvs, hF, q⟩
end Fp

/-! the rules with the written part told by name -/
namespace Fp
open PySem PySem.Spec PyProof.Rows L2
section
variable {X : Cx} (K : PySem.W.Frag)
theorem op_inK (hK : X.K = K := by rfl) : OpR X (compareOp .In) (rIn K false) := hK ▸ op_in_seq
theorem op_notInK (hK : X.K = K := by rfl) : OpR X (compareOp .NotIn) (rIn K true) := hK ▸ op_notIn_seq
theorem op_eqDK (hu : X.A.units + 64 < cLine) (hK : X.K = K := by rfl) : OpR X (compareOp .Eq) (rEqD K) := hK ▸ op_eqD hu
theorem op_neDK (hu : X.A.units + 64 < cLine) (hK : X.K = K := by rfl) : OpR X (compareOp .NotEq) (rNeD K) := hK ▸ op_neD hu
theorem call_lenK (hK : X.K = K := by rfl) : CallR X (.builtin "len") (rLenL K) := hK ▸ call_lenL
theorem call_listK (hK : X.K = K := by rfl) : CallR X (.type "list") (rListL K) := hK ▸ call_listL
theorem call_listTK (hK : X.K = K := by rfl) : CallR X (.type "list") (rListT K) := hK ▸ call_listT
def rTupL (K : PySem.W.Frag) : List V → Hp → VK → Prop := fun xs H Q => ∃ p ys, xs = [.ref p] ∧ SqL K H p ys ∧ ∀ l, H l = none → Q (.ref l) (upd H l (.tup ys))
theorem call_tupleK (hK : X.K = K := by rfl) : CallR X (.type "tuple") (rTupL K) := by
  subst hK
  intro pins s σ H xs us Q I r h
  obtain ⟨p, ys, e, h1, q⟩ := h
  exact call_tuple_of pins s σ H xs us Q I r ⟨p, ys, e, .inl ⟨h1, q⟩⟩
theorem call_allK (hc : X.calm = true) (hK : X.K = K := by rfl) : CallR X (.builtin "all") (rAll K) := hK ▸ cr_all hc
theorem ix_listK (hK : X.K = K := by rfl) : IxR X (rIxL K) := hK ▸ ix_list
theorem ix_tupK (hK : X.K = K := by rfl) : IxR X (rIxT K) := hK ▸ ix_tup
theorem ix_kdK (w : World) (hK : X.K = K := by rfl) (hw : X.w = w := by rfl) : IxR X (rIxD K w) := by
  subst hK hw
  exact ix_kdict
theorem sl_listK (hK : X.K = K := by rfl) : SlR X (rSlL K) := hK ▸ sl_list
variable {tg e o : Expr} {td : TE} {t : TA}
theorem pi_listK (he : PE X e td) (hK : X.K = K := by rfl) : PI X tg e (iList K td) := hK ▸ pi_list he
theorem pi_tupK (he : PE X e td) (hK : X.K = K := by rfl) : PI X tg e (iTup K td) := hK ▸ pi_tup he
theorem pi_kkK (he : PE X e td) (hK : X.K = K := by rfl) : PI X tg e (iKK K td) := hK ▸ pi_kk he
theorem pe_fldK {f : Str} {pos : Pos} (ho : PE X o td) (hb : attributeBase o f X.env (eval o X.env) = eval o X.env) (hK : X.K = K := by rfl) : PE X (.Attribute o f pos) (tFld K td f) := hK ▸ pe_fld ho hb
theorem ps_fldK {f : Str} {pos pos' : Pos} {v : Expr} {tv : TE} (ho : PE X o td) (hv : PE X v tv) (hs : swapsWith v (some (.Attribute o f pos')) pos.line X.env = pure false) (hK : X.K = K := by rfl) : PS X (.Assign [.Attribute o f pos'] v pos) (sFld K td tv f) := hK ▸ ps_fld ho hv hs
theorem pg_tupK {es : List Expr} {k n : Nat} {pos : Pos} {u : List V → L2.St → Hp → (L2.St → Hp → Prop) → Prop} (h : PG X (.Tuple es k pos) (gTup X.K n u)) (hK : X.K = K := by rfl) : PG X (.Tuple es k pos) (gTup K n u) := hK ▸ h
section
variable {T : String} {name : Str} {id : String} {to : TE} {r : V → List V → Hp → VK → Prop} {apos cpos : Pos} {es : List Expr}
theorem pe_bmK (hK : X.K = K := by rfl) (h : PE X (.Call (.Attribute o name apos) es [] cpos) (tBM X.K T r to t)) : PE X (.Call (.Attribute o name apos) es [] cpos) (tBM K T r to t) := hK ▸ h
theorem pe_bm0K (hK : X.K = K := by rfl) (h : PE X (.Call (.Attribute o name apos) es [] cpos) (tBM0 X.K T r to)) : PE X (.Call (.Attribute o name apos) es [] cpos) (tBM0 K T r to) := hK ▸ h
end
end
end Fp

/-! x != y where the class has an own __eq__ and no own __ne__ -/
namespace Fp
open PySem PySem.Spec PyProof.Rows L2
section
variable {X : Cx} {k : Nat} {C : Addr} {ps : List Str} {sp : Sp}
def rOwnNe (C : Addr) (sp : Sp) : R2 := fun x y H Q => ∃ a dx fs b dy gs, x = .ref a ∧ y = .ref b ∧ H a = some (.ins C dx fs) ∧ H b = some (.ins C dy gs) ∧ sp [.ref a, .ref b] H (fun v H' => ∃ r, v = .bl r ∧ Q (.bl (!r)) H') E0
theorem op_ownNe (hne : PySem.W.findIn X.K (.ref C) "__ne__" = some (some (.builtin "object.__ne__"))) (hm : PySem.W.mroIn X.K C (.type "object") = some true)
    (M : Mn X.prog X.w X.K X.mg X.base k C "__eq__" ps sp) (hr : Room (k + 1) X.A) : OpR X (compareOp .NotEq) (rOwnNe C sp) := by
  intro pins s σ H x y v u Q I rx ry h
  obtain ⟨a, dx, fs, b, dy, gs, rfl, rfl, ha, hb, q⟩ := h
  obtain rfl : v = Value.ref a := rx
  obtain rfl : u = Value.ref b := ry
  obtain ⟨g, fd, h1, h2, h3⟩ := M
  obtain ⟨od, J⟩ := inst_of I ha
  obtain ⟨od', J'⟩ := inst_of I hb
  have XK := I.kIn
  have SN := PySem.F.cmp_object.ne
  -- the def's own run, one deeper
  have run : codeAny (model X.prog X.w) X.A.in1 (.call (.ref g) ⟨[.ref a, .ref b], []⟩) (CR (fun _ _ _ _ _ _ => False) X.stack X.prog X.w H s (fun v H' => ∃ r, v = .bl r ∧ Q (.bl (!r)) H') E0) s := by
    have r2 : Vals [V.ref a, V.ref b] [Value.ref a, Value.ref b] := .cons rfl (.cons rfl .nil)
    have hl := h3.len _ _ _ _ q
    exact h3.run X.A.in1 X.stack s H ⟨[.ref a, .ref b], []⟩ [.ref a, .ref b] [.ref a, .ref b] _ E0 hr.in1 I.env0.in1 (h2 s [.ref a, .ref b] I.kIn hl) r2 q
  have body : wpAny (model X.prog X.w) X.A (call (.builtin "object.__ne__") [.ref a, .ref b]) (fun r s' => ∃ t, r = Value.bool t ∧ EP X pins σ Q (.bool t) s') X.xe s := by
    have sub : PySem.W.Looks (model X.prog X.w) s.heap (isInstance (.ref a) (.type "object")) true := J.type.andThen (PySem.W.looks_mroIn XK hm)
    refine wpAny_call (codeAny_call_builtin SN.plain PySem.F.cmpEntry_ne (@PySem.W.check_slot (model X.prog X.w) _ _ s "object.__ne__" "object" "__ne__" (.ref a) [.ref b] [] _ PySem.F.cmpKind_ne PySem.F.cmpSplit_ne sub (PySem.F.cmpArgs_ne _ _) ?_))
    unfold Builtin.«object.__ne__»
    refine wpAny_bind (wpAny_pure ?_)
    have hu : X.A.in1.units < cLine := hr.in1.units0
    refine wpAny_bind (wpAny_cRoomFor hu ?_)
    refine wpAny_bind (PySem.W.ifBound_K (od := some od) XK J h1.at_ h1.fn (wpAny_call (codeAny_mono run fun r s' hq => ?_)))
    cases r with
    | error e => exact hq.elim
    | ok fl =>
      cases fl with
      | ret u =>
        obtain ⟨v', H', I', rz, t, rfl, qz⟩ := I.after hq
        cases rz
        refine wpAny_bind (wpAny_truthy_bool ?_)
        exact wpAny_pure ⟨!t, rfl, .bl (!t), H', I', rfl, qz⟩
      | next => exact False.elim hq
      | brk => exact False.elim hq
      | cont => exact False.elim hq
  have one : wpAny (model X.prog X.w) X.A (tryCompare (.ref a) "__ne__" (.ref b)) (fun r s' => ∃ v, r = some v ∧ EP X pins σ Q v s') X.xe s := by
    unfold tryCompare
    refine wpAny_bind ?_
    simp only [callSpecialIfBound?, bindSpecialIfBound?]
    refine wpAny_holding (wpAny_bind (wpAny_bind (wpAny_bind (J.type.here ((PySem.W.looks_findIn XK hne).here ?_)))))
    have fin : wpAny (model X.prog X.w) X.A (call (.builtin "object.__ne__") ([.ref a] ++ [.ref b]) >>= fun v => pure (some v)) (fun r s' => wpAny (model X.prog X.w) X.A (match r with | some .notImplemented | none => pure none | some v => pure (some v)) (fun r s' => ∃ v, r = some v ∧ EP X pins σ Q v s') X.xe s') X.xe s :=
      wpAny_bind (wpAny_mono body (fun r s' hr' => by obtain ⟨t, rfl, e⟩ := hr'; exact wpAny_pure (wpAny_pure ⟨_, rfl, e⟩)) fun _ _ z => z)
    refine wpAny_bind (wpAny_askSetting (wpAny_ite ?_))
    split
    · rw [SN.bind]
      exact wpAny_bind (wpAny_pure (wpAny_pure fin))
    · rw [SN.bind]
      exact wpAny_tryCatch (wpAny_bind (wpAny_pure (wpAny_pure fin)))
  show wpAny _ _ (richCompare .NotEq _ _) _ _ _
  unfold richCompare
  simp only [PySem.oneThing_ref]
  have e0 : ((Value.ref C != Value.ref C) = true) = False := by simp
  refine wpAny_holding (wpAny_bind (wpAny_cRoomFor hr.units0 (wpAny_bind (J.type.here (wpAny_bind (J'.type.here ?_))))))
  simp only [e0, if_false]
  refine wpAny_bind (wpAny_pure ?_)
  simp only [Bool.false_eq_true, if_false]
  refine wpAny_bind (wpAny_mono one (fun r s' z => ?_) fun _ _ e => e)
  obtain ⟨v, rfl, hq⟩ := z
  exact wpAny_pure hq
end
end Fp

namespace Fp
open PySem PySem.Spec PyProof.Rows L2
local macro_rules | `(tactic| walk_at "rd") => `(tactic| simp only [cxK, cxKn, tRet, tRetN, rIntI, rIntB, rLenL, rListL, rListT, rAbs, tDisp, tPairs, tC, tCB, tCons, tNil, tSl, tVar, tNoPart, tPart, rSlL, tOp, tAsg, gName, tIfS, tDrop, tTest, tAnd, tOr, Evl.tCut, tNot, tB, rI0, rI, rIxL, rIxT, rIxD, tDGet, sDPut, tLst, tTup, tBM, tBM0, tPar, rAppend, rPopAt, rPop, rExtend, rTupL, tCall, tNext, rAll, rOwnIn, rOwn2, rCat, lc_iL, lc_iT, lc_iK, lc_iR, fr_iL, fr_iT, fr_iR, tYes, rIn, rEq, rNe, gTup, gCons, gNil, wipe, tMeth, tFld, sFld, tMake, tProp, tIf, tAndV, tOrV, tNotV, if_true, if_false, Bool.false_eq_true, List.map_cons, List.map_nil, List.nil_append, List.append_nil, List.cons_append, List.getElem?_cons_zero, List.getElem?_cons_succ, Option.some.injEq, exists_and_left, exists_eq_left', exists_eq_left, List.cons.injEq, and_true, true_and, V.ref.injEq, V.int.injEq, V.str.injEq, V.bl.injEq, List.set_cons_zero, List.set_cons_succ])
theorem seqi {t u : TS} {D : Ends} {σ : L2.St} {H : Hp} (h : ∀ k : L2.St → Hp → Prop, k = u D → t { D with nx := k } σ H) : tSeq t u D σ H := h _ rfl
theorem tSeq_eq {t u : TS} {D : Ends} {σ : L2.St} {H : Hp} : tSeq t u D σ H = t { D with nx := u D } σ H := rfl
section
variable {K : PySem.W.Frag} {P : Program} {w : World} {base : Heap} {mg : Str → Option Value}
theorem cxK {CX : CXT} {N : List Str} {qual : Str} {sc : Scope} {f : Addr} {cdv : Value} {A : Around} {outer : List Env} {s : Shared} {H : Hp} {E : XK} : (cxOf CX P w K mg base N qual sc f cdv A outer s H E).K = K := rfl
theorem cxKn {CX : CXT} {N : List Str} {qual : Str} {sc : Scope} {f : Addr} {cdv : Value} {A : Around} {outer : List Env} {s : Shared} {H : Hp} {E : XK} : (cxOf CX P w K mg base N qual sc f cdv A outer s H E).nox.K = K := rfl
end
section
variable {K : PySem.W.Frag} {P : Program} {w : World} {base : Heap} {mg : Str → Option Value}
end

/-! ### the mathematics: rules by number -/
def rn (i : Nat) : Str := (["grouping", "order", "middle", "first", "last", "ends", "keep", "take", "vanish"] : List Str).getD i ""
def kn (i : Nat) : Str := (["trees", "pairs", "words", "bags", "parity", "middles", "heads", "tails", "sets", "outer", "lefts", "rights", "one"] : List Str).getD i ""
def KR (i : Nat) : List Nat := [[], [1], [0], [0, 1], [0, 1, 8], [0, 2], [0, 2, 3], [0, 2, 4], [0, 1, 2, 3, 4], [0, 2, 5], [0, 2, 3, 5, 6], [0, 2, 4, 5, 7], [0, 1, 2, 3, 4, 5, 6, 7, 8]].getD i []
abbrev R9 : List Nat := [0, 1, 2, 3, 4, 5, 6, 7, 8]
abbrev K13 : List Nat := [0, 1, 2, 3, 4, 5, 6, 7, 8, 9, 10, 11, 12]
def ruD (l : List Nat) : PyData := .list (l.map fun i => .str (rn i))
def kiD (i : Nat) : PyData := .tuple [.str (kn i), ruD (KR i)]
def thD : PyData := .list (K13.map kiD)
section
variable {K : PySem.W.Frag} {P : Program} {w : World} {base : Heap} {mg : Str → Option Value}
def spNine : Sp := fun vs H Q _ => vs = [] ∧ ∀ v H', Same H H' → Dt H' v (ruD R9) → Q v H'
def spThir : Sp := fun vs H Q _ => vs = [] ∧ ∀ v H', Same H H' → Dt H' v thD → Q v H'
end

/-! ### more mathematics -/
def hasB (k : Nat) (ns : List Nat) : Bool := ns.all fun n => decide (n ∈ KR k)
def clos (ns : List Nat) : List Nat := R9.filter fun r => ((K13.filter fun k => hasB k ns).filter fun k => !decide (r ∈ KR k)).isEmpty
theorem rn_inj : ∀ i ∈ R9, ∀ j ∈ R9, rn i = rn j → i = j := by decide
def rS (l : List Nat) : List Str := l.map rn
theorem mem_rS {i : Nat} {l : List Nat} (hi : i ∈ R9) (hl : ∀ j ∈ l, j ∈ R9) : (rn i ∈ rS l) = (i ∈ l) := propext ⟨fun h => by
  obtain ⟨j, hj, e⟩ := List.mem_map.mp h
  rw [← rn_inj j (hl j hj) i hi e]
  exact hj, fun h => List.mem_map_of_mem h⟩
theorem KR_in : ∀ k ∈ K13, ∀ j ∈ KR k, j ∈ R9 := by decide
theorem ruD_eq (l : List Nat) : ruD l = .list ((rS l).map PyData.str) := by
  unfold ruD rS
  rw [List.map_map]
  rfl
theorem shp_rn : ∀ i ∈ R9, (PyData.str (rn i)).canLay0 = true ∧ (PyData.str (rn i)).depth ≤ 0 := by decide +kernel
theorem shp_ru {l : List Nat} (h : ∀ j ∈ l, j ∈ R9) : Shp 1 (ruD l) := shp_lst fun d hd => by
  obtain ⟨i, hi, rfl⟩ := List.mem_map.mp hd
  exact shp_rn i (h i hi)
theorem filter_empty {α : Type} (p : α → Bool) : ∀ l : List α, (l.filter fun x => !p x).isEmpty = l.all p
  | [] => rfl
  | x :: r => by
    rw [List.filter_cons, List.all_cons, ← filter_empty p r]
    cases p x with
    | true => rfl
    | false => rfl
theorem map_empty {α β : Type} (f : α → β) (l : List α) : (l.map f).isEmpty = l.isEmpty := by cases l <;> rfl
theorem dts_rS {H : Hp} : ∀ l : List Nat, Dts H ((rS l).map V.str) (l.map fun n => PyData.str (rn n))
  | [] => .nil
  | n :: r => .cons (.str _) (dts_rS r)
theorem Dt.rules {H : Hp} {v : V} {l : List Nat} (h : Dt H v (ruD l)) : ∃ a, v = .ref a ∧ H a = some (.lst ((rS l).map V.str)) := by
  rw [ruD_eq] at h
  cases h with
  | lst h1 t => exact ⟨_, rfl, by rw [h1, Dts.strs t]⟩
section
variable {K : PySem.W.Frag} {P : Program} {w : World} {base : Heap} {mg : Str → Option Value}
/-- names: rules by number -/
def spClos : Sp := fun vs H Q _ => ∃ v ns, vs = [v] ∧ Dt H v (ruD ns) ∧ (∀ n ∈ ns, n ∈ R9) ∧ ns.length ≤ 9 ∧ ∀ v H', Same H H' → Dt H' v (ruD (clos ns)) → Q v H'
end

theorem perm_erase {α : Type} : ∀ (l : List α) (i : Nat) (x : α), l[i]? = some x → (x :: l.eraseIdx i).Perm l
  | [], _, _, h => by simp at h
  | y :: r, 0, x, h => by
    cases h
    exact List.Perm.refl _
  | y :: r, i + 1, x, h => by
    have ih := perm_erase r i x h
    exact (List.Perm.swap y x _).trans (ih.cons y)
section
variable {K : PySem.W.Frag} {P : Program} {w : World} {base : Heap} {mg : Str → Option Value}
def spShuf : Sp := fun vs H Q _ => ∃ p c v t ds n, vs = [.ref p, v] ∧ PenOk H p c t ∧ Dt H v (.list ds) ∧ (∀ d ∈ ds, Shp n d) ∧ n ≤ 60 ∧ ds.length ≤ 900 ∧ t ≤ 900000000 ∧
  ∀ a H' es, es.Perm ds → PenOk H' p c (t + ds.length) → But p H H' → Dt H' (.ref a) (.list es) → Q (.ref a) H'
end
/-! ### the mathematics of closing -/
def sub (b : Nat) : List Nat := R9.filter fun i => b.testBit i
def weak (ns : List Nat) : Nat := (K13.filter fun k => hasB k ns).headD 0
def allOk (b : Nat) : Bool :=
  decide (KR (weak (sub b)) = clos (sub b)) && decide ((K13.filter fun k => decide (KR k = clos (sub b))) = [weak (sub b)])
theorem all_ok : (List.range 512).all allOk = true := by decide +kernel
theorem sub_ok {b : Nat} (h : b < 512) : KR (weak (sub b)) = clos (sub b) ∧ (K13.filter fun k => decide (KR k = clos (sub b))) = [weak (sub b)] := by
  have h1 := List.all_eq_true.mp all_ok b (List.mem_range.mpr h)
  unfold allOk at h1
  rw [Bool.and_eq_true, decide_eq_true_eq, decide_eq_true_eq] at h1
  exact h1
theorem sub_in {b i : Nat} (h : i ∈ sub b) : i ∈ R9 := (List.mem_filter.mp h).1
theorem sub_len (b : Nat) : (sub b).length ≤ 9 := List.length_filter_le _ _
theorem clos_in {ns : List Nat} {i : Nat} (h : i ∈ clos ns) : i ∈ R9 := (List.mem_filter.mp h).1
theorem has_one {ns : List Nat} (h : ∀ n ∈ ns, n ∈ R9) : hasB 12 ns = true := List.all_eq_true.mpr fun n hn => decide_eq_true (h n hn)
theorem weak_head {ns : List Nat} (h : ∀ n ∈ ns, n ∈ R9) : (K13.filter fun k => hasB k ns)[0]? = some (weak ns) ∧ weak ns ∈ K13 := by
  have hm : 12 ∈ K13.filter fun k => hasB k ns := List.mem_filter.mpr ⟨by decide, has_one h⟩
  unfold weak
  cases e : (K13.filter fun k => hasB k ns) with
  | nil => rw [e] at hm; cases hm
  | cons k r => exact ⟨rfl, (List.mem_filter.mp (show k ∈ K13.filter fun k => hasB k ns by rw [e]; exact List.mem_cons_self)).1⟩
theorem kinds_ok : K13.all (fun k => decide (weak (KR k) = k)) = true := by decide +kernel
theorem weak_KR {k : Nat} (h : k ∈ K13) : weak (KR k) = k := of_decide_eq_true (List.all_eq_true.mp kinds_ok k h)
theorem KR_sorted : K13.all (fun k => decide (R9.filter (fun i => decide (i ∈ KR k)) = KR k)) = true := by decide +kernel
theorem KR_filter {k : Nat} (h : k ∈ K13) : R9.filter (fun i => decide (i ∈ KR k)) = KR k := of_decide_eq_true (List.all_eq_true.mp KR_sorted k h)
theorem sub_filter (b : Nat) : R9.filter (fun i => decide (i ∈ sub b)) = sub b := by
  unfold sub
  refine List.filter_congr fun i hi => ?_
  cases h : b.testBit i with
  | true => exact decide_eq_true (List.mem_filter.mpr ⟨hi, h⟩)
  | false => exact decide_eq_false fun z => absurd (List.mem_filter.mp z).2 (by rw [h]; decide)
theorem kn_rn : K13.all (fun k => R9.all fun i => !decide (kn k = rn i)) = true := by decide +kernel
theorem eqv_strs : ∀ a b : List Str, PyData.eqvAll (a.map PyData.str) (b.map PyData.str) = decide (a = b)
  | [], [] => rfl
  | [], _ :: _ => rfl
  | _ :: _, [] => rfl
  | x :: a, y :: b => by
    show ((x == y) && PyData.eqvAll (a.map PyData.str) (b.map PyData.str)) = _
    rw [eqv_strs a b]
    by_cases h : x = y
    · subst h
      simp
    · simp [h]
theorem rS_inj : ∀ {a b : List Nat}, (∀ n ∈ a, n ∈ R9) → (∀ n ∈ b, n ∈ R9) → (rS a = rS b) = (a = b)
  | [], [], _, _ => by simp
  | [], _ :: _, _, _ => by simp [rS]
  | _ :: _, [], _, _ => by simp [rS]
  | x :: a, y :: b, ha, hb => by
    have ih := rS_inj (a := a) (b := b) (fun n hn => ha n (List.mem_cons_of_mem _ hn)) (fun n hn => hb n (List.mem_cons_of_mem _ hn))
    have hx := ha x List.mem_cons_self
    have hy := hb y List.mem_cons_self
    have e1 : (rn x = rn y) = (x = y) := propext ⟨fun e => rn_inj x hx y hy e, fun e => by rw [e]⟩
    show (rn x :: rS a = rn y :: rS b) = _
    simp only [List.cons.injEq]
    rw [e1, ih]
theorem eqv_ru {a b : List Nat} (ha : ∀ n ∈ a, n ∈ R9) (hb : ∀ n ∈ b, n ∈ R9) : PyData.eqv (ruD a) (ruD b) = decide (a = b) := by
  rw [ruD_eq, ruD_eq]
  show PyData.eqvAll _ _ = _
  rw [eqv_strs, decide_eq_decide.mpr (iff_of_eq (rS_inj ha hb))]

/-! ### what the top has written of rules -/
def kS : List Str := K13.map kn
structure TxR (K : PySem.W.Frag) (w : World) (mg : Str → Option Value) (aR aD C : Addr) (T : Nat → Addr) : Prop where
  mR : mg "_RULES" = some (.ref aR)
  mD : mg "_RULES_OF" = some (.ref aD)
  mC : mg "Rules" = some (.ref C)
  sR : ∀ H, SqT K H aR ((rS R9).map V.str)
  kk : KKeys K aD kS
  dD : ∃ es n, KDict K w aD es n
  dI : ∀ k ∈ K13, KDct K w aD (kn k) (.ref (T k))
  sT : ∀ k ∈ K13, ∀ H, SqT K H (T k) ((rS (KR k)).map V.str)
  cl : Cls K C
  nN : NoAttr K C "_names"
  nK : NoAttr K C "_kind"
  m_list : mg "list" = none
  m_all : mg "all" = none
  m_tuple : mg "tuple" = none
  m_isi : mg "isinstance" = none
section
variable {K : PySem.W.Frag} {P : Program} {w : World} {base : Heap} {mg : Str → Option Value} {aR aD C : Addr} {T : Nat → Addr}
def spRulesOf : Sp := fun vs H Q _ => ∃ k ∈ K13, vs = [.str (kn k)] ∧ ∀ v H', Same H H' → Dt H' v (ruD (KR k)) → Q v H'
def spHas (K : PySem.W.Frag) : Sp := fun vs H Q _ => ∃ a b k ns, vs = [.ref a, .ref b] ∧ k ∈ K13 ∧ (∀ n ∈ ns, n ∈ R9) ∧ ns.length ≤ 9 ∧ SqT K H a ((rS (KR k)).map V.str) ∧ SqT K H b ((rS ns).map V.str) ∧
  ∀ H', Same H H' → Q (.bl (hasB k ns)) H'
def spWeak (K : PySem.W.Frag) : Sp := fun vs H Q _ => ∃ b ns, vs = [.ref b] ∧ (∀ n ∈ ns, n ∈ R9) ∧ ns.length ≤ 9 ∧ SqT K H b ((rS ns).map V.str) ∧ ∀ H', Same H H' → Q (.str (kn (weak ns))) H'
theorem dts_bools {H : Hp} : ∀ {bs : List Bool} {vs : List V}, Dts H vs (bs.map PyData.bool) → vs = bs.map V.bl
  | [], _, .nil => rfl
  | z :: r, _, .cons (.bl _) t => by rw [dts_bools t]; rfl
end

def rFl (t : Addr) (k : Str) : List (Str × V) := putF "_kind" (.str k) (putF "_names" (.ref t) [])
theorem s_nk : ¬ (("_names" : Str) = "_kind") := by decide +kernel
theorem rFl_names (t : Addr) (k : Str) : (rFl t k).lookup ("_names" : Str) = some (.ref t) := by
  unfold rFl
  rw [lookup_putF, if_neg s_nk, lookup_putF, if_pos rfl]
theorem rFl_kind (t : Addr) (k : Str) : (rFl t k).lookup ("_kind" : Str) = some (.str k) := by
  unfold rFl
  rw [lookup_putF, if_pos rfl]
theorem rFl_no (t : Addr) (k m : Str) (h1 : ¬ m = "_kind") (h2 : ¬ m = "_names") : (rFl t k).lookup m = none := by
  unfold rFl
  rw [lookup_putF, if_neg h1, lookup_putF, if_neg h2]
  rfl
/-- a set of rules stands at p -/
def RuAt (H : Hp) (C p : Addr) (s : List Nat) : Prop := ∃ dx t, H p = some (.ins C dx (rFl t (kn (weak s)))) ∧ H t = some (.tup ((rS s).map V.str))
theorem RuAt.same {H H' : Hp} {C p : Addr} {s : List Nat} (h : RuAt H C p s) (e : Same H H') : RuAt H' C p s := by
  obtain ⟨dx, t, h1, h2⟩ := h
  exact ⟨dx, t, e _ _ h1, e _ _ h2⟩
section
variable {K : PySem.W.Frag} {P : Program} {w : World} {base : Heap} {mg : Str → Option Value} {aR aD C : Addr} {T : Nat → Addr}
def spInit (C : Addr) : Sp := fun vs H Q _ => ∃ p dx v ns, vs = [.ref p, v] ∧ H p = some (.ins C dx []) ∧ Dt H v (ruD ns) ∧ (∀ n ∈ ns, n ∈ R9) ∧ ns.length ≤ 9 ∧
  ∀ H', (∀ b o, H b = some o → b ≠ p → H' b = some o) → RuAt H' C p (R9.filter fun i => decide (i ∈ ns)) → Q .non H'
end

theorem Same.but {p : Addr} {H H' : Hp} (e : Same H H') : But p H H' := But.of e
section
variable {K : PySem.W.Frag} {P : Program} {w : World} {base : Heap} {mg : Str → Option Value} {aR aD C : Addr} {T : Nat → Addr}
def spListed (C : Addr) : Sp := fun vs H Q _ => ∃ p s, vs = [.ref p] ∧ RuAt H C p s ∧ ∀ v H', Same H H' → Dt H' v (ruD s) → Q v H'
def spKind (C : Addr) : Sp := fun vs H Q _ => ∃ p s, vs = [.ref p] ∧ RuAt H C p s ∧ ∀ H', Same H H' → Q (.str (kn (weak s))) H'
def spClosed (C : Addr) : Sp := fun vs H Q _ => ∃ p s, vs = [.ref p] ∧ RuAt H C p s ∧ weak s ∈ K13 ∧ ∀ p' H', Same H H' → RuAt H' C p' (KR (weak s)) → Q (.ref p') H'
def spCont (C : Addr) : Sp := fun vs H Q _ => ∃ p s z, vs = [.ref p, .str z] ∧ RuAt H C p s ∧ weak s ∈ K13 ∧ ∀ H', Same H H' → Q (.bl (decide (z ∈ rS (KR (weak s))))) H'
def spEq (C : Addr) : Sp := fun vs H Q _ => ∃ p s p' s', vs = [.ref p, .ref p'] ∧ RuAt H C p s ∧ RuAt H C p' s' ∧ (∀ n ∈ s, n ∈ R9) ∧ (∀ n ∈ s', n ∈ R9) ∧ ∀ H', Same H H' → Q (.bl (decide (s = s'))) H'
/-- the kind whose rules are closed under names -/
def spKW : Sp := fun vs H Q _ => ∃ v b, vs = [v] ∧ b < 512 ∧ Dt H v (ruD (sub b)) ∧ ∀ H', Same H H' → Q (.str (kn (weak (sub b)))) H'
end

/-! ### which rules are drawn -/
theorem mk_rules {C : Addr} {H : Hp} {v : V} {l : List Nat} {Q : VK} (hv : Dt H v (ruD l)) (hl : ∀ n ∈ l, n ∈ R9) (hn : l.length ≤ 9) (q : ∀ p H', Same H H' → RuAt H' C p (R9.filter fun i => decide (i ∈ l)) → Q (.ref p) H') :
    ∀ x dx, H x = none → H dx = none → dx ≠ x → spInit C [.ref x, v] (upd (upd H dx (.own x)) x (.ins C dx [])) (fun v H2 => v = .non ∧ Q (.ref x) H2) E0 := by
  intro x dx nx ndx ne
  have e2 : Same H (upd (upd H dx (.own x)) x (.ins C dx [])) := fun b o hb => by
    rw [upd_ne (ne_of_none hb nx), upd_ne (ne_of_none hb ndx)]
    exact hb
  exact ⟨x, dx, v, l, rfl, upd_same, hv.same e2, hl, hn, fun H2 k2 r2 => ⟨rfl, q _ _ (fun b o hb => k2 b o (e2 _ _ hb) (ne_of_none hb nx)) r2⟩⟩
def pick : List Bool → List Nat → List Nat
  | b :: bs, x :: xs => if b = true then x :: pick bs xs else pick bs xs
  | _, _ => []
theorem pick_snoc : ∀ (bs : List Bool) (xs : List Nat) (b : Bool) (x : Nat), xs[bs.length]? = some x → pick (bs ++ [b]) xs = pick bs xs ++ (if b = true then [x] else [])
  | [], [], _, _, h => by simp at h
  | [], y :: r, b, x, h => by
    cases h
    cases b <;> rfl
  | c :: bs, [], _, _, h => by simp at h
  | c :: bs, y :: r, b, x, h => by
    have ih := pick_snoc bs r b x h
    cases c with
    | true =>
      show y :: pick (bs ++ [b]) r = y :: pick bs r ++ _
      rw [ih]
      rfl
    | false => exact ih
def bitsOf : List Bool → Nat
  | [] => 0
  | b :: r => (if b = true then 1 else 0) + 2 * bitsOf r
theorem pick9 : ∀ b0 b1 b2 b3 b4 b5 b6 b7 b8 : Bool, pick [b0, b1, b2, b3, b4, b5, b6, b7, b8] R9 = sub (bitsOf [b0, b1, b2, b3, b4, b5, b6, b7, b8]) ∧ bitsOf [b0, b1, b2, b3, b4, b5, b6, b7, b8] < 512 := by decide +kernel
theorem pick_sub {bs : List Bool} (h : bs.length = 9) : ∃ b, b < 512 ∧ pick bs R9 = sub b := by
  match bs, h with
  | [b0, b1, b2, b3, b4, b5, b6, b7, b8], _ => exact ⟨_, (pick9 b0 b1 b2 b3 b4 b5 b6 b7 b8).2, (pick9 b0 b1 b2 b3 b4 b5 b6 b7 b8).1⟩
theorem pick_len : ∀ (bs : List Bool) (xs : List Nat), (pick bs xs).length ≤ bs.length
  | [], _ => Nat.le_of_eq (by cases ‹List Nat› <;> rfl)
  | _ :: _, [] => Nat.zero_le _
  | b :: bs, x :: xs => by
    have ih := pick_len bs xs
    cases b with
    | true => exact Nat.succ_le_succ ih
    | false => exact Nat.le_succ_of_le ih
theorem perm_map_inv {α β : Type} {f : α → β} {es m : List β} (h : es.Perm m) : ∀ l : List α, m = l.map f → ∃ l' : List α, l'.Perm l ∧ es = l'.map f := by
  induction h with
  | nil => exact fun l e => ⟨l, List.Perm.refl _, e⟩
  | cons x _ ih =>
    intro l e
    cases l with
    | nil => cases e
    | cons a r =>
      injection e with e1 e2
      obtain ⟨r', p, e3⟩ := ih r e2
      exact ⟨a :: r', p.cons a, by rw [e1, e3]; rfl⟩
  | swap x y l0 =>
    intro l e
    match l, e with
    | a :: b :: r, e =>
      injection e with e1 e2
      injection e2 with e2 e3
      exact ⟨b :: a :: r, List.Perm.swap a b r, by rw [e1, e2, e3]; rfl⟩
  | trans _ _ ih1 ih2 =>
    intro l e
    obtain ⟨l2, p2, e2⟩ := ih2 l e
    obtain ⟨l1, p1, e1⟩ := ih1 l2 e2
    exact ⟨l1, p1.trans p2, e1⟩
theorem filter_perm {a b : List Nat} (h : a.Perm b) : R9.filter (fun i => decide (i ∈ a)) = R9.filter fun i => decide (i ∈ b) :=
  List.filter_congr fun i _ => decide_eq_decide.mpr h.mem_iff
def kS2 : List Str := kS ++ [("" : Str), ("q" : Str)]
theorem kS2_no : K13.all (fun k => kS2.all fun z => !decide (z ∈ rS (KR k))) = true := by decide +kernel
theorem weak_in (b : Nat) : weak (sub b) ∈ K13 := (weak_head fun n hn => sub_in hn).2
theorem shp_kS2 : ∀ z ∈ kS2, Shp 0 (.str z) := by
  have h : kS2.all (fun z => (PyData.str z).canLay0) = true := by decide +kernel
  exact fun z hz => ⟨List.all_eq_true.mp h z hz, Nat.le_refl _⟩
theorem RuAt.but {p : Addr} {kvs : List (Key × V)} {H H' : Hp} {C q : Addr} {s : List Nat} (hp : H p = some (.dK kvs)) (h : RuAt H C q s) (e : But p H H') : RuAt H' C q s := by
  obtain ⟨dx, t, h1, h2⟩ := h
  exact ⟨dx, t, e.1 _ _ h1 (ne_of h1 hp (by intro z; cases z)), e.1 _ _ h2 (ne_of h2 hp (by intro z; cases z))⟩
section
variable {K : PySem.W.Frag} {P : Program} {w : World} {base : Heap} {mg : Str → Option Value} {aR aD C : Addr} {T : Nat → Addr}
def spLaw (K : PySem.W.Frag) : Sp := fun vs H Q _ => ∃ (a : Addr) (ns : List Int), vs = [.ref a] ∧ SqL K H a (ns.map V.int) ∧ ns.length ≤ 63 ∧ ∀ H', Q (.bl true) H'
end

end Fp

/-! more rules at a written part K -/
namespace Fp
open PySem PySem.Spec PyProof.Rows L2
section
variable {X : Cx} {K : PySem.W.Frag}
/-- == of data, the one side flat enough -/
def rEqC (K : PySem.W.Frag) : R2 := fun x y H Q => ∃ d e, Dp K H x d ∧ Dp K H y e ∧ d.canLay0 = true ∧ e.canLay0 = true ∧ min d.depth e.depth ≤ 64 ∧ Q (.bl (PyData.eqv d e)) H
def rNeC (K : PySem.W.Frag) : R2 := fun x y H Q => ∃ d e, Dp K H x d ∧ Dp K H y e ∧ d.canLay0 = true ∧ e.canLay0 = true ∧ min d.depth e.depth ≤ 64 ∧ Q (.bl (!PyData.eqv d e)) H
theorem op_eqC (hu : X.A.units + 64 < cLine) (hK : X.K = K := by rfl) : OpR X (compareOp .Eq) (rEqC K) := by
  subst hK
  intro pins s σ H x y v u Q I rx ry h
  obtain ⟨d, e, hd, he, sd, se, hm, q⟩ := h
  obtain ⟨as, r1⟩ := Dp.reads I d x v hd rx
  obtain ⟨bs, r2⟩ := Dp.reads I e y u he ry
  exact SeqAt.compareEq_reads r1 r2 sd se (by omega) ⟨.bl _, H, I, rfl, q⟩
theorem op_neC (hu : X.A.units + 64 < cLine) (hK : X.K = K := by rfl) : OpR X (compareOp .NotEq) (rNeC K) := by
  subst hK
  intro pins s σ H x y v u Q I rx ry h
  obtain ⟨d, e, hd, he, sd, se, hm, q⟩ := h
  obtain ⟨as, r1⟩ := Dp.reads I d x v hd rx
  obtain ⟨bs, r2⟩ := Dp.reads I e y u he ry
  exact SeqAt.compareNe_reads r1 r2 sd se (by omega) ⟨.bl _, H, I, rfl, q⟩
theorem call_isi1 (hK : X.K = K := by rfl) : CallR X (.builtin "isinstance") (rIsi K) := hK ▸ call_isi
theorem cr_sumK (hc : X.calm = true) (hK : X.K = K := by rfl) : CallR X (.builtin "sum") (rSum K) := hK ▸ cr_sum hc
def tTru (K : PySem.W.Frag) (ta : TE) : TT := fun σ H Q => ta σ H fun x H' => ∃ k, TruV K x H' k ∧ Q k H'
theorem pt_truthK {a : Expr} {ta : TE} (ha : PE X a ta) (he : ∀ whole, isTrue a X.env whole = (do let v ← whole; standAt a.pos; holding [v] (truthy v)) := by exact fun _ => rfl) (hK : X.K = K := by rfl) : PT X a (tTru K ta) := by
  subst hK
  exact pt_truth ha he
theorem pe_revK {e : Expr} {te : TE} {k : Nat} {p1 p2 p3 pos : Pos} (he : PE X e te) (hK : X.K = K := by rfl) : PE X (.Subscript e (.Slice none none (some (.UnaryOp .USub (.Constant (.int 1) k p1) p2)) p3) pos) (tRevL K te) := by
  subst hK
  exact pe_revL he
/-- a list against the empty one -/
theorem ne_nilC {H : Hp} {v : V} {q : Addr} {ds : List PyData} {Q : VK} (h : Dt H v (.list ds)) (hs : PyData.canLayAll0 ds = true) (hq : H q = some (.lst [])) (k : Q (.bl (!ds.isEmpty)) H) : rNeC K v (.ref q) H Q := by
  refine ⟨.list ds, .list [], h.dp, .lst (.inl (.inl hq)) .nil, hs, rfl, Nat.le_trans (Nat.min_le_right _ _) (by decide), ?_⟩
  cases ds <;> exact k
end
end Fp

/-! lambdas with parameters and without captured names: made, held, called -/
namespace Fp
open PySem PySem.Spec PyProof.Rows L2 LamX
/-- what a lambda is in the text -/
structure Lm where
  qual : Str
  ps : Arguments
  bd : Expr
  sc : Scope
def LamF (f c : Addr) (l : Lm) : HO := .ext fun h => ∃ pm ctv : Value, h.get? f = some (PySem.W.kla_obj "<lambda>" l.qual l.ps l.bd l.sc [] pm c ctv)
/-- the lambda stands at f -/
def LamAt (H : Hp) (f : Addr) (l : Lm) : Prop := ∃ c, H f = some (LamF f c l) ∧ H c = some (CodeO c l.qual)
theorem LamAt.ext {H H' : Hp} {f : Addr} {l : Lm} (h : LamAt H f l) (e : ExtN H H') : LamAt H' f l := by
  obtain ⟨c, h1, h2⟩ := h
  refine ⟨c, e _ _ h1 fun ps z => ?_, e _ _ h2 codeO_ne⟩
  unfold LamF at z
  cases z
theorem LamAt.same {H H' : Hp} {f : Addr} {l : Lm} (h : LamAt H f l) (e : Same H H') : LamAt H' f l := h.ext (ExtN.of e)
section
variable {X : Cx} {pins : List (Addr × Obj)} {σ : L2.St} {H : Hp} {s : Shared}
theorem lam_lay {f c : Addr} {l : Lm} {pm ctv : Value} {hp : Heap} {tk : Nat} (I : Inv X pins σ H { s with heap := hp, toks := tk }) (ef : f = hp.objs.size) (hc : H c = some (CodeO c l.qual)) :
    Inv X pins σ (upd H f (LamF f c l)) { s with heap := hp.push (PySem.W.kla_obj "<lambda>" l.qual l.ps l.bd l.sc [] pm c ctv), toks := tk } := by
  have kp : ∀ b u, hp.get? b = some u → (hp.push (PySem.W.kla_obj "<lambda>" l.qual l.ps l.bd l.sc [] pm c ctv)).get? b = some u := fun b u z => Heap.get?_push_of_some _ z
  have gf : (hp.push (PySem.W.kla_obj "<lambda>" l.qual l.ps l.bd l.sc [] pm c ctv)).get? f = some (PySem.W.kla_obj "<lambda>" l.qual l.ps l.bd l.sc [] pm c ctv) := by
    rw [ef]
    exact Heap.get?_push_size _ rfl
  exact Inv.laid (s := { s with heap := hp, toks := tk }) (a := f) (o := LamF f c l) (t' := tk) I kp (Nat.le_of_eq ef.symm) ⟨⟨pm, ctv, gf⟩, ⟨_, gf⟩, fun h1 h2 ⟨a, b, z⟩ st => ⟨a, b, st _ z⟩⟩
/-- the table P of the code object c: which names its entries bear -/
structure Mak (base : Heap) (mg : Str → Option Value) (T : List (Addr × Str)) (cd : Value) (q : Str) : Prop where
  ex : ∃ c P, cd = .ref c ∧ TabB base mg c P ∧ (P, q) ∈ T ∧ ∀ p ∈ T, p.1 = P → p.2 = q
def tLamV (T : List (Addr × Str)) (l : Lm) : TE := fun _ H Q => Tabs T H ∧ ∀ f H1, ExtN H H1 → Tabs T H1 → LamAt H1 f l → Q (.ref f) H1
theorem pe_lamV {T : List (Addr × Str)} {qual : Str} {params : Arguments} {body : Expr} {scope : Scope} {pos : Pos} (M : Mak X.base X.mg T X.env.code qual) (hq : qual = X.env.qual ++ "<lambda>") (hdef : defaultsOf params X.env = ([], [])) (hfree : ∀ y ∈ scope.names, y.2 ≠ .free) (hcl : cloFrom X.env.cells scope.names [] = []) :
    PE X (.Lambda params body scope pos) (tLamV T ⟨qual, params, body, scope⟩) := by
  subst hq
  refine ⟨fun pins s σ H Q I hyp => ?_⟩
  obtain ⟨hT, hyp⟩ := hyp
  obtain ⟨c, P, hcode, TB, hm, hu⟩ := M.ex
  obtain ⟨ps, hP, ht, ha⟩ := hT _ hm
  refine PySem.W.kla_eval hdef ?_
  have b1 : s.heap.BuiltinsAt X.mg P := TB.bm.keeps I.bk
  have b2 : s.heap.get? P = some { cls := .none, data := .fields ps } := I.hok P _ hP
  have b3 := I.mod.glob.keeps I.bk
  have b4 := TB.code.keeps I.bk
  have clo := closure_ok (env := X.env) (scope := scope) fun y hy e => absurd e (hfree y hy)
  rw [hcl] at clo
  cases hc : codeAmong pos ps.toList with
  | none =>
    refine PySem.W.kla_makeFunction (mg := X.mg) (c := c) (P := P) (ps := ps) clo I.ok.glob b3 hcode b4 b2 ht hc TB.gP b1 fun c' ctv h' tk hx hge hlt hrec htb => ?_
    obtain ⟨c2, oc, vs, t, e2, hoc, hd, hv⟩ := hrec
    cases e2
    have nC : H c' = none := I.hok.fresh hge
    have nP : P ≠ c' := ne_of_none hP nC
    have I1 := inv_table (q := X.env.qual ++ "<lambda>") (t' := tk) (more := #[rawInt pos.line, rawInt pos.col, .ref c']) I hP hx htb hge ⟨oc, vs, t, hoc, hd, hv⟩
    have E1 : ExtN H (upd (upd H P (.tbl (ps ++ #[rawInt pos.line, rawInt pos.col, .ref c']))) c' (CodeO c' (X.env.qual ++ "<lambda>"))) := fun b o e n => by
      rw [upd_ne (ne_of_none e nC), upd_ne]
      · exact e
      · intro z
        rw [z, hP] at e
        exact n ps (Option.some.inj e).symm
    have T1 : Tabs T (upd (upd H P (.tbl (ps ++ #[rawInt pos.line, rawInt pos.col, .ref c']))) c' (CodeO c' (X.env.qual ++ "<lambda>"))) := fun p hp => by
      by_cases hb : p.1 = P
      · rw [hu p hp hb, hb]
        have eL : (ps ++ #[rawInt pos.line, rawInt pos.col, .ref c']).toList = ps.toList ++ [rawInt pos.line, rawInt pos.col, .ref c'] := by simp
        refine ⟨_, (upd_ne nP).trans upd_same, eL ▸ PySem.TriplesOk_snoc _ _ _ _ ht, fun p' cv z => ?_⟩
        rw [eL] at z
        rcases among_app _ ht z with z | z
        · obtain ⟨c0, e1, e2⟩ := ha p' cv z
          exact ⟨c0, e1, E1 _ _ e2 codeO_ne⟩
        · exact ⟨c', z, upd_same⟩
      · obtain ⟨ps', a1, a2, a3⟩ := hT p hp
        refine ⟨ps', by rw [upd_ne (ne_of_none a1 nC), upd_ne hb]; exact a1, a2, fun p' cv z => ?_⟩
        obtain ⟨c0, e1, e2⟩ := a3 p' cv z
        exact ⟨c0, e1, E1 _ _ e2 codeO_ne⟩
    have nF : (upd (upd H P (.tbl (ps ++ #[rawInt pos.line, rawInt pos.col, .ref c']))) c' (CodeO c' (X.env.qual ++ "<lambda>"))) h'.objs.size = none := I1.hok.fresh (Nat.le_refl _)
    have I2 := lam_lay (f := h'.objs.size) (c := c') (l := ⟨X.env.qual ++ "<lambda>", params, body, scope⟩) (pm := (X.mg "__name__").getD .none) (ctv := ctv) I1 rfl upd_same
    have E2 := same_new (o := LamF h'.objs.size c' ⟨X.env.qual ++ "<lambda>", params, body, scope⟩) nF
    exact ⟨.ref _, _, I2, rfl, hyp _ _ (E1.trans (ExtN.of E2)) (T1.ext E2) ⟨c', upd_same, E2 _ _ upd_same⟩⟩
  | some cv =>
    obtain ⟨c', e, hco⟩ := ha pos cv hc
    subst e
    refine PySem.W.kla_makeFunctionHit (mg := X.mg) (c := c) (P := P) (ps := ps) clo I.ok.glob b3 hcode b4 b2 ht hc b1 fun ctv h' tk hx hsz => ?_
    have I1 : Inv X pins σ H { s with heap := h', toks := tk } := I.kept hx
    have nF : H h'.objs.size = none := I1.hok.fresh (Nat.le_refl _)
    have I2 := lam_lay (f := h'.objs.size) (c := c') (l := ⟨X.env.qual ++ "<lambda>", params, body, scope⟩) (pm := (X.mg "__name__").getD .none) (ctv := ctv) I1 rfl hco
    have E2 := same_new (o := LamF h'.objs.size c' ⟨X.env.qual ++ "<lambda>", params, body, scope⟩) nF
    exact ⟨.ref _, _, I2, rfl, hyp _ _ (ExtN.of E2) (hT.ext E2) ⟨c', upd_same, E2 _ _ hco⟩⟩
end
/-! ### its call -/
/-- what the lambda promises: its body as a term -/
structure LamOk (P : Program) (w : World) (K : PySem.W.Frag) (mg : Str → Option Value) (base : Heap) (k : Nat) (l : Lm) (N : List Str) (sp : Sp) : Prop where
  scope : FnScope N N l.sc
  binds : ∀ (c : Value) (pm ctv : Value) (us : List Value), us.length = N.length → bindArgs (PySem.W.kla_fn "<lambda>" l.qual l.ps l.bd l.sc [] pm c ctv) ⟨us, []⟩ = pure (N.zip us)
  len : ∀ vs H Q, sp vs H Q E0 → vs.length = N.length
  body : ∀ (f c : Addr) (A : Around) (outer : List Env) (s : Shared) (H : Hp) (vs : List V) (Q : VK), Room k (A.deeper (envOfC l.qual l.sc s.heap.objs.size f (.ref c))) → sp vs H Q E0 →
    ∃ t, PE (cxOf CX0 P w K mg base N l.qual l.sc f (.ref c) A outer s H E0) l.bd t ∧ t (L2.start N vs) H Q
theorem vals_len : ∀ {vs : List V} {us : List Value}, Vals vs us → vs.length = us.length
  | _, _, .nil => rfl
  | _, _, .cons _ r => congrArg Nat.succ (vals_len r)
theorem run_lam {P : Program} {w : World} {K : PySem.W.Frag} {mg : Str → Option Value} {base : Heap} {k : Nat} {l : Lm} {N : List Str} {sp : Sp} {A : Around} {outer : List Env} {s : Shared} {H : Hp} {f : Addr} {us : List Value} {vs : List V} {Q : VK}
    (L : LamOk P w K mg base k l N sp) (hl : LamAt H f l) (hr : Room (k + 1) A) (e0 : Env0 P w K mg base A outer s H) (r : Vals vs us) (h : sp vs H Q E0) :
    codeAny (model P w) A (.call (.ref f) ⟨us, []⟩) (CR CX0 outer P w H s Q E0) s := by
  obtain ⟨c, h1, h2⟩ := hl
  obtain ⟨⟨pm, ctv, of⟩, _, _⟩ := e0.hok f _ h1
  obtain ⟨⟨oc, vv, t, hoc, hdc, hvc⟩, _, _⟩ := e0.hok c _ h2
  have lenU : us.length = N.length := by rw [← L.len vs H Q h]; exact (vals_len r).symm
  have lim : s.heap.NoLimit := e0.mod.nolimit.keeps fun b o e => (e0.bs b o e).1
  have hkind : ∀ y ∈ N.zip us, l.sc.names.lookup y.1 = some .local ∨ (l.sc.names.lookup y.1 = some .cell ∧ ((cellsFrom (s.heap.objs.size + 1) l.sc.names []).lookup y.1).isSome = true) := fun ⟨n, v⟩ hy => by
    rcases L.scope.par n (List.of_mem_zip hy).1 with q | q
    · exact .inl q
    · exact .inr ⟨q, PySem.W.cellsFrom_some _ _ _ (.inl q)⟩
  refine PySem.W.kla_callFunE hr.depth of rfl L.scope.co L.scope.gen rfl ⟨c, oc, vv, t, rfl, hoc, hdc, hvc⟩ ?_
  rw [L.binds _ _ _ _ lenU]
  refine wpAny_pure (wpAny_newFunctionEnv_cells L.scope.kind hkind fun env he s1 x => ?_)
  subst he
  refine ⟨lim.keeps x.toInCall.keep, PySem.W.kla_codeExpr ?_⟩
  obtain ⟨te, ht, hq⟩ := L.body f c A outer s H vs Q (hr.deeper _) h
  have I : Inv (cxOf CX0 P w K mg base N l.qual l.sc f (.ref c) A outer s H E0) [] (L2.start N vs) H s1 := inv_start L.scope hr.hd e0 (L.len vs H Q h) r x
  refine wpAny_mono (ht.run [] s1 (L2.start N vs) H Q I hq) (fun v s' hs => ?_) fun e s' hs => hs
  obtain ⟨w', H', J, rv, q⟩ := hs
  exact ⟨w', H', J.os, J.bare, J.base, J.hok, rv, q⟩
/-- a function of the text, or a lambda, at f -/
def OpAt (P : Program) (w : World) (K : PySem.W.Frag) (mg : Str → Option Value) (base : Heap) (k : Nat) (f : Addr) (sp : Sp) (H : Hp) : Prop :=
  Held P w K mg base k f sp ∨ ∃ l N, LamAt H f l ∧ LamOk P w K mg base (k - 1) l N sp ∧ 0 < k
theorem OpAt.ext {P : Program} {w : World} {K : PySem.W.Frag} {mg : Str → Option Value} {base : Heap} {k : Nat} {f : Addr} {sp : Sp} {H H' : Hp} (h : OpAt P w K mg base k f sp H) (e : ExtN H H') : OpAt P w K mg base k f sp H' := by
  rcases h with h | ⟨l, N, a, b, c⟩
  · exact .inl h
  · exact .inr ⟨l, N, a.ext e, b, c⟩
def tCallO (P : Program) (w : World) (K : PySem.W.Frag) (mg : Str → Option Value) (base : Heap) (k i : Nat) (t : TA) : TE := fun σ H Q => ∃ f sp, σ[i]? = some (some (.ref f)) ∧ OpAt P w K mg base k f sp H ∧ t σ H fun vs H1 => ExtN H H1 ∧ sp vs H1 Q E0
theorem pe_callO {X : Cx} {k i : Nat} {x : Str} {p pos : Pos} {e : Expr} {es : List Expr} {t : TA} (hr : Room k X.A) (hN : X.N[i]? = some x) (hv : Vis X.env.scope x) (ha : PA X (e :: es) t)
    (hdb : (x == ("__debug__" : Str)) = false := by decide) (hcd : (x == ("__classdict__" : Str)) = false := by decide)
    (he : starEach (e :: es) X.env = (false, eval e X.env) :: starEach es X.env := by rfl) (hpl : (backTo pos (starEach es X.env)).any (·.1) = false := by rfl) :
    PE X (.Call (.Name x p) (e :: es) [] pos) (tCallO X.prog X.w X.K X.mg X.base k i t) := by
  refine ⟨fun pins s σ H Q I h => ?_⟩
  obtain ⟨f, sp, hs, hO, ht⟩ := h
  rcases hO with hK | ⟨l, N, hl, hL, hk⟩
  · obtain ⟨fd, ps, F, hk, hb⟩ := hK.ex
    refine wpAny_Call_Name_kw (thn ((pe_var (pos := p) hN hv hdb hcd).run pins s σ H (fun v H1 => v = .ref f ∧ H1 = H) I ⟨.ref f, hs, rfl, rfl⟩) fun u s1 ⟨v, H1, I1, r1, q1⟩ => ?_)
    obtain ⟨rfl, rfl⟩ := q1
    cases r1
    refine PySem.W.callWith_K (h₀ := X.base) I.ok.mod.kin hk (thn (ha.run pos pins s1 σ _ _ I1 ht) fun us s2 ⟨vs, H2, I2, r, q⟩ => ⟨I2.kIn, ?_⟩) he hpl
    have q2 : sp (vs ++ []) H2 Q E0 := by
      rw [List.append_nil]
      exact q.2
    exact run_fn F hr hb .nil (fun _ _ _ _ _ _ _ z => z.elim) I2 r q2
  · obtain ⟨j, rfl⟩ : ∃ j, k = j + 1 := ⟨k - 1, by omega⟩
    refine wpAny_Call_Name_kw (thn ((pe_var (pos := p) hN hv hdb hcd).run pins s σ H (fun v H1 => v = .ref f ∧ H1 = H) I ⟨.ref f, hs, rfl, rfl⟩) fun u s1 ⟨v, H1, I1, r1, q1⟩ => ?_)
    obtain ⟨rfl, rfl⟩ := q1
    cases r1
    have fnA : ∀ {Hx : Hp} {sx : Shared}, LamAt Hx f l → Inv X pins σ Hx sx → PySem.W.FnAt f sx.heap := fun {Hx sx} z J => by
      obtain ⟨c, h1, _⟩ := z
      obtain ⟨⟨pm, ctv, of⟩, _, _⟩ := J.hok f _ h1
      exact ⟨_, _, _, _, of⟩
    refine PySem.W.callWith_F (fnA hl I1) (thn (ha.run pos pins s1 σ _ _ I1 ht) fun us s2 ⟨vs, H2, I2, r, q⟩ => ⟨fnA (hl.ext q.1) I2, ?_⟩) he hpl
    refine wpAny_call (codeAny_mono (run_lam hL (hl.ext q.1) hr I2.env0 r q.2) fun r' s3 hq => ?_)
    cases r' with
    | error e => exact hq.elim
    | ok fl =>
      cases fl with
      | ret u => exact I2.after hq
      | next => exact False.elim hq
      | brk => exact False.elim hq
      | cont => exact False.elim hq
theorem pe_callOK {X : Cx} {P : Program} {w : World} {K : PySem.W.Frag} {mg : Str → Option Value} {base : Heap} {k i : Nat} {x : Str} {p pos : Pos} {e : Expr} {es : List Expr} {t : TA} (hr : Room k X.A) (hN : X.N[i]? = some x) (hv : Vis X.env.scope x) (ha : PA X (e :: es) t)
    (h1 : X.prog = P := by rfl) (h2 : X.w = w := by rfl) (h3 : X.K = K := by rfl) (h4 : X.mg = mg := by rfl) (h5 : X.base = base := by rfl)
    (hdb : (x == ("__debug__" : Str)) = false := by decide) (hcd : (x == ("__classdict__" : Str)) = false := by decide)
    (he : starEach (e :: es) X.env = (false, eval e X.env) :: starEach es X.env := by rfl) (hpl : (backTo pos (starEach es X.env)).any (·.1) = false := by rfl) :
    PE X (.Call (.Name x p) (e :: es) [] pos) (tCallO P w K mg base k i t) := by
  subst h1 h2 h3 h4 h5
  exact pe_callO hr hN hv ha hdb hcd he hpl
/-- a def whose code object is known -/
theorem fn_cd {P : Program} {w : World} {K : PySem.W.Frag} {mg : Str → Option Value} {base : Heap} {x qual : Str} {st : Stmt} {f : Addr} {N ps : List Str} {k : Nat} {sp : Sp} {oc kV doc pm cdv ct : Value} {od an : Option Addr} {osl : Array (Option Value)}
    (lk : K.lookup f = some ⟨oc, od, .func (PySem.W.fnOf x qual (defArgs st) (defBody st) (defScope st) .none kV doc pm an cdv ct), osl⟩) (hcd : PySem.W.codeIn K cdv qual = true) (S : FnScope N ps (defScope st)) (len : ∀ vs H Q E, sp vs H Q E → vs.length = ps.length)
    (hb : ∀ (A : Around) (outer : List Env) (s : Shared) (H : Hp) (vs : List V) (Q : VK) (E : XK), Room k (A.deeper (envOfC qual (defScope st) s.heap.objs.size f cdv)) → sp vs H Q E →
      ∃ t, PSs (cxOf CX0 P w K mg base N qual (defScope st) f cdv A outer s H E).nox (defBody st) t ∧ t { nx := fun _ H' => Q .non H', rt := Q } (start N vs) H) :
    FnOk P w K mg base CX0 (k + 1) f (PySem.W.fnOf x qual (defArgs st) (defBody st) (defScope st) .none kV doc pm an cdv ct) ps sp := by
  refine fn_of lk hcd S len fun A outer s H vs Q E hr hsp => ?_
  obtain ⟨t, h, q⟩ := hb A outer s H vs Q E hr hsp
  exact ⟨t, h.nox, q⟩
theorem tabs_but {T : List (Addr × Str)} {H H' : Hp} {p : Addr} {kvs : List (Key × V)} (hp : H p = some (.dK kvs)) (e : But p H H') (t : Tabs T H) : Tabs T H' := fun x hx => by
  obtain ⟨ps, h1, h2, h3⟩ := t x hx
  refine ⟨ps, e.1 _ _ h1 (ne_of h1 hp (by intro z; cases z)), h2, fun pos cv hc => ?_⟩
  obtain ⟨c, e1, e2⟩ := h3 pos cv hc
  refine ⟨c, e1, e.1 _ _ e2 (ne_of e2 hp ?_)⟩
  intro z
  unfold CodeO at z
  cases z
end Fp

/-! trees of letters -/
namespace Fp
open PySem PySem.Spec PyProof.Rows L2
inductive Tr where
  | leaf (n : Int)
  | node (l r : Tr)
def Tr.dat : Tr → PyData
  | .leaf n => .int n
  | .node l r => .tuple [l.dat, r.dat]
def Tr.post : Tr → List (Option Int)
  | .leaf n => [some n]
  | .node l r => l.post ++ r.post ++ [none]
def Tr.lets : Tr → List Int
  | .leaf n => [n]
  | .node l r => l.lets ++ r.lets
/-- nodes of both sorts, brackets twice -/
def Tr.sz : Tr → Nat
  | .leaf _ => 1
  | .node l r => l.sz + r.sz + 2
def oD : Option Int → PyData
  | none => .none
  | some n => .int n
theorem Tr.lay : ∀ t : Tr, t.dat.canLay0 = true
  | .leaf _ => rfl
  | .node l r => by
    show (l.dat.canLay0 && (r.dat.canLay0 && true)) = true
    rw [l.lay, r.lay]
    rfl
theorem Tr.post_len : ∀ t : Tr, t.post.length ≤ t.sz
  | .leaf _ => Nat.le_refl _
  | .node l r => by
    have h1 := l.post_len
    have h2 := r.post_len
    show (l.post ++ r.post ++ [none]).length ≤ l.sz + r.sz + 2
    rw [List.length_append, List.length_append, List.length_singleton]
    omega
theorem Tr.sz_lets : ∀ t : Tr, t.sz + 2 = 3 * t.lets.length
  | .leaf _ => rfl
  | .node l r => by
    have h1 := l.sz_lets
    have h2 := r.sz_lets
    show l.sz + r.sz + 2 + 2 = 3 * (l.lets ++ r.lets).length
    rw [List.length_append]
    omega
theorem Tr.post_lets : ∀ t : Tr, t.post.filterMap id = t.lets
  | .leaf _ => rfl
  | .node l r => by
    show (l.post ++ r.post ++ [none]).filterMap id = l.lets ++ r.lets
    rw [List.filterMap_append, List.filterMap_append, l.post_lets, r.post_lets]
    exact List.append_nil _
theorem post_filter : ∀ xs : List (Option Int), (xs.filter fun x => x.isSome).map oD = (xs.filterMap id).map PyData.int
  | [] => rfl
  | none :: xs => post_filter xs
  | some n :: xs => congrArg (PyData.int n :: ·) (post_filter xs)
theorem Tr.post_mem {t : Tr} {n : Int} (h : some n ∈ t.post) : n ∈ t.lets := by
  rw [← t.post_lets]
  exact List.mem_filterMap.mpr ⟨_, h, rfl⟩
theorem Tr.lets_pos : ∀ t : Tr, 0 < t.lets.length
  | .leaf _ => Nat.one_pos
  | .node l r => by
    show 0 < (l.lets ++ r.lets).length
    rw [List.length_append]
    exact Nat.lt_of_lt_of_le l.lets_pos (Nat.le_add_right _ _)
/-! ### what waits -/
def wD : Option Tr → PyData
  | none => .none
  | some t => t.dat
def wPost : Option Tr → List (Option Int)
  | none => [none]
  | some t => t.post
def wSz : Option Tr → Nat
  | none => 1
  | some t => t.sz
def oV : Option Int → V
  | none => .non
  | some n => .int n
theorem dts_o {H : Hp} : ∀ xs : List (Option Int), Dts H (xs.map oV) (xs.map oD)
  | [] => .nil
  | none :: xs => .cons .non (dts_o xs)
  | some n :: xs => .cons (.int n) (dts_o xs)
theorem dts_split {H : Hp} : ∀ {ds es : List PyData} {vs : List V}, Dts H vs (ds ++ es) → ∃ a b, vs = a ++ b ∧ Dts H a ds ∧ Dts H b es
  | [], _, vs, h => ⟨[], vs, rfl, .nil, h⟩
  | _ :: ds, es, _, .cons h t => by
    obtain ⟨a, b, e, h1, h2⟩ := dts_split (ds := ds) t
    exact ⟨_ :: a, b, by rw [e]; rfl, .cons h h1, h2⟩
theorem Dts.one {H : Hp} {d : PyData} {vs : List V} (h : Dts H vs [d]) : ∃ v, vs = [v] ∧ Dt H v d := by
  cases h with
  | cons a b =>
    cases b
    exact ⟨_, rfl, a⟩
theorem snoc_cases {α : Type} (l : List α) : l = [] ∨ ∃ a x, l = a ++ [x] := by
  rcases List.eq_nil_or_concat l with h | ⟨a, x, h⟩
  · exact .inl h
  · exact .inr ⟨a, x, by rw [h, List.concat_eq_append]⟩
def wSum (ws : List (Option Tr)) : Nat := (ws.map wSz).sum
theorem wSum_app (a b : List (Option Tr)) : wSum (a ++ b) = wSum a + wSum b := by
  unfold wSum
  rw [List.map_append, List.sum_append]
theorem wD_post (ws : List (Option Tr)) (x : Option Tr) : (ws ++ [x]).reverse.flatMap wPost = wPost x ++ ws.reverse.flatMap wPost := by
  rw [List.reverse_append]
  rfl
def tSum (ws : List Tr) : Nat := (ws.map Tr.sz).sum
theorem tSum_app (a b : List Tr) : tSum (a ++ b) = tSum a + tSum b := by
  unfold tSum
  rw [List.map_append, List.sum_append]
theorem tSum_len : ∀ l : List Tr, l.length ≤ tSum l
  | [] => Nat.le_refl _
  | t :: l => by
    have h := tSum_len l
    have h2 : 1 ≤ t.sz := by cases t <;> exact Nat.succ_le_succ (Nat.zero_le _)
    show l.length + 1 ≤ t.sz + tSum l
    omega
theorem lay_trees : ∀ ws : List Tr, PyData.canLayAll0 (ws.map Tr.dat) = true
  | [] => rfl
  | t :: ws => by
    show (t.dat.canLay0 && PyData.canLayAll0 (ws.map Tr.dat)) = true
    rw [t.lay, lay_trees ws]
    rfl
theorem snoc_lets (ws : List Tr) (x : Tr) : (ws ++ [x]).reverse.flatMap Tr.lets = x.lets ++ ws.reverse.flatMap Tr.lets := by
  rw [List.reverse_append]
  rfl
theorem split2 {α : Type} : ∀ (l : List α) (i : Nat), i + 1 < l.length → ∃ a x y b, l = a ++ x :: y :: b ∧ a.length = i
  | [], _, h => absurd h (Nat.not_lt_zero _)
  | [_], i, h => absurd h (by simp)
  | x :: y :: b, 0, _ => ⟨[], x, y, b, rfl, rfl⟩
  | z :: l, i + 1, h => by
    obtain ⟨a, x, y, b, e, ea⟩ := split2 l i (Nat.lt_of_succ_lt_succ h)
    exact ⟨z :: a, x, y, b, by rw [e]; rfl, by rw [← ea]; rfl⟩
theorem cut_from (xs : List V) (k : Nat) : cutV xs (some (k : Int)) none = xs.drop k := by
  unfold cutV
  rw [HT.sIx_none, show HT.sIx xs.length 0 (some (k : Int)) = min k xs.length from HT.sIx_nat _ _ k]
  rcases Nat.le_total k xs.length with h | h
  · rw [Nat.min_eq_left h, List.take_of_length_le (by rw [List.length_drop]; exact Nat.le_refl _)]
  · rw [Nat.min_eq_right h, List.drop_of_length_le h, List.drop_of_length_le (Nat.le_refl _)]
    exact List.take_nil
theorem dts_cons {H : Hp} {d : PyData} {ds : List PyData} {vs : List V} (h : Dts H vs (d :: ds)) : ∃ v ws, vs = v :: ws ∧ Dt H v d ∧ Dts H ws ds := by
  cases h with
  | cons a b => exact ⟨_, _, rfl, a, b⟩
theorem cut_last (xs : List V) (x : V) : cutV (xs ++ [x]) none (some (-1)) = xs := by
  unfold cutV
  have e : HT.sIx (xs ++ [x]).length (xs ++ [x]).length (some (-1)) = xs.length := by
    show (if (-1 : Int) < 0 then ((-1 : Int) + ((xs ++ [x]).length : Int)).toNat else min (-1 : Int).toNat (xs ++ [x]).length) = _
    rw [if_pos (by decide), List.length_append, List.length_singleton]
    omega
  rw [HT.sIx_none, e]
  show List.take (xs.length - 0) (xs ++ [x]) = xs
  rw [Nat.sub_zero]
  exact List.take_left
/-! ### put together again -/
def reb : List (Option Int) → List Tr → Option (List Tr)
  | [], s => some s
  | some n :: xs, s => reb xs (.leaf n :: s)
  | none :: xs, r :: l :: s => reb xs (.node l r :: s)
  | none :: _, _ => none
theorem reb_post : ∀ (t : Tr) (xs : List (Option Int)) (s : List Tr), reb (t.post ++ xs) s = reb xs (t :: s)
  | .leaf _, _, _ => rfl
  | .node l r, xs, s => by
    show reb (l.post ++ r.post ++ [none] ++ xs) s = _
    rw [List.append_assoc, List.append_assoc, reb_post l, reb_post r]
    rfl
def lvs (s : List Tr) : Nat := (s.map fun t => t.lets.length).sum
theorem reb_lvs : ∀ (xs : List (Option Int)) (s s' : List Tr), reb xs s = some s' → lvs s ≤ lvs s'
  | [], s, s', h => by
    cases h
    exact Nat.le_refl _
  | some n :: xs, s, s', h => by
    have := reb_lvs xs (.leaf n :: s) s' h
    have e : lvs (.leaf n :: s) = 1 + lvs s := rfl
    omega
  | none :: xs, [], s', h => nomatch h
  | none :: xs, [_], s', h => nomatch h
  | none :: xs, r :: l :: s, s', h => by
    have := reb_lvs xs (.node l r :: s) s' h
    have e : lvs (.node l r :: s) = (l.lets ++ r.lets).length + lvs s := rfl
    have e2 : lvs (r :: l :: s) = r.lets.length + (l.lets.length + lvs s) := rfl
    rw [List.length_append] at e
    omega
/-! ### behind a lambda's making -/
mutual
theorem Dt.ext {H H' : Hp} (e : LamX.ExtN H H') : ∀ {d : PyData} {v : V}, Dt H v d → Dt H' v d
  | .none, _, .non => .non
  | .bool _, _, .bl b => .bl b
  | .int _, _, .int i => .int i
  | .str _, _, .str x => .str x
  | .list ds, _, .lst h t => .lst (e _ _ h (by intro ps z; cases z)) (Dts.ext e t)
  | .tuple ds, _, .tup h t => .tup (e _ _ h (by intro ps z; cases z)) (Dts.ext e t)
theorem Dts.ext {H H' : Hp} (e : LamX.ExtN H H') : ∀ {ds : List PyData} {vs : List V}, Dts H vs ds → Dts H' vs ds
  | [], _, .nil => .nil
  | _ :: _, _, .cons h t => .cons (Dt.ext e h) (Dts.ext e t)
end
theorem PenOk.ext {H H' : Hp} {p c : Addr} {t : Nat} (h : PenOk H p c t) (e : LamX.ExtN H H') : PenOk H' p c t := by
  obtain ⟨cells, turn, left, h1, h2, h3⟩ := h.ex
  exact ⟨cells, turn, left, e _ _ h1 (by intro ps z; cases z), e _ _ h2 (by intro ps z; cases z), h3⟩
theorem rng_at {m : Nat} {fv : V → V} {n : Int} (h0 : 0 ≤ n) (h1 : n < (m : Int)) : (((rngV 0 m).filter fun _ => true).map fv)[n.toNat]? = some (fv (.int n)) := by
  rw [List.filter_eq_self.mpr (fun _ _ => rfl), List.getElem?_map, rngV_at (by omega)]
  show some (fv (V.int (0 + (n.toNat : Int)))) = _
  rw [show (0 : Int) + (n.toNat : Int) = n by omega]
theorem rng_mem {m : Nat} {x : V} (h : x ∈ rngV 0 m) : ∃ i : Nat, i < m ∧ x = .int (i : Int) := by
  obtain ⟨i, hi, e⟩ := List.mem_map.mp h
  exact ⟨i, List.mem_range.mp hi, by rw [← e, Int.zero_add]⟩
/-! ### texts -/
theorem es_eq : (Str.ofString "") = Str.empty := by decide +kernel
theorem es_app (a : Str) : (Str.ofString "") ++ a = a := by rw [es_eq]; exact Str.empty_append a
theorem app_es (a : Str) : a ++ (Str.ofString "") = a := by rw [es_eq]; exact Str.append_empty a
def Tr.txt : Tr → Str
  | .leaf n => Str.ofString (toString n) ++ "."
  | .node l r => "(" ++ l.txt ++ r.txt ++ ")"
def wT : Option Tr → Str
  | none => ")"
  | some t => t.txt
def wTs : List (Option Tr) → Str
  | [] => ""
  | x :: xs => wT x ++ wTs xs
def wDs : Option Tr → PyData
  | none => .str ")"
  | some t => t.dat
theorem lay_ws : ∀ ws : List (Option Tr), PyData.canLayAll0 (ws.map wDs) = true
  | [] => rfl
  | none :: ws => by
    have h : (PyData.str ")").canLay0 = true := by decide +kernel
    show ((PyData.str ")").canLay0 && PyData.canLayAll0 (ws.map wDs)) = true
    rw [h, lay_ws ws]
    rfl
  | some t :: ws => by
    show (t.dat.canLay0 && PyData.canLayAll0 (ws.map wDs)) = true
    rw [t.lay, lay_ws ws]
    rfl
theorem num_len {n : Int} (h0 : 0 ≤ n) (h1 : n < 100) : (Str.ofString (toString n)).length ≤ 2 := by
  obtain ⟨m, rfl⟩ : ∃ m : Nat, n = m := ⟨n.toNat, by omega⟩
  rw [TL.len_tl, TL.tl_num]
  exact TL.numL_len (by decide) (by omega)
theorem num_log {n : Int} (h0 : 0 ≤ n) (h1 : n < 100) : n.natAbs.log2 < 1920 := by
  have h := Nat.log2_le_self n.natAbs
  omega
theorem Tr.txt_len : ∀ t : Tr, (∀ n ∈ t.lets, 0 ≤ n ∧ n < 100) → t.txt.length + 2 ≤ 8 * t.lets.length
  | .leaf n, h => by
    obtain ⟨h0, h1⟩ := h n (List.mem_singleton.mpr rfl)
    have := num_len h0 h1
    show (Str.ofString (toString n) ++ ".").length + 2 ≤ 8 * 1
    rw [Str.length_append]
    have e : ("." : Str).length = 1 := rfl
    omega
  | .node l r, h => by
    have h1 := l.txt_len fun n hn => h n (List.mem_append_left _ hn)
    have h2 := r.txt_len fun n hn => h n (List.mem_append_right _ hn)
    show ("(" ++ l.txt ++ r.txt ++ ")").length + 2 ≤ 8 * (l.lets ++ r.lets).length
    rw [Str.length_append, Str.length_append, Str.length_append, List.length_append]
    have e1 : ("(" : Str).length = 1 := rfl
    have e2 : (")" : Str).length = 1 := rfl
    omega
def spText : Sp := fun vs H Q _ => ∃ v t, vs = [v] ∧ Dt H v t.dat ∧ Tr.sz t ≤ 10000 ∧ (∀ n ∈ t.lets, 0 ≤ n ∧ n < 100) ∧ ∀ H', Same H H' → Q (.str t.txt) H'
def rStr (n : Nat) (x : V) : Prop := ∃ z, x = .str z ∧ z.length + 2 ≤ 8 * n
def gJoin : V → V → V
  | .str a, .str b => .str ("(" ++ a ++ b ++ ")")
  | _, _ => .non
theorem gJoin_ok (n m : Nat) (x y : V) (h1 : rStr n x) (h2 : rStr m y) : rStr (n + m) (gJoin x y) := by
  obtain ⟨a, rfl, ha⟩ := h1
  obtain ⟨b, rfl, hb⟩ := h2
  refine ⟨_, rfl, ?_⟩
  rw [Str.length_append, Str.length_append, Str.length_append]
  have e1 : ("(" : Str).length = 1 := rfl
  have e2 : (")" : Str).length = 1 := rfl
  omega
/-! ### values -/
def Tr.ev (vals : List V) (g : V → V → V) : Tr → V
  | .leaf n => vals.getD n.toNat .non
  | .node l r => g (l.ev vals g) (r.ev vals g)
/-- an operation on values that are no objects; R n: a value of n letters -/
def spOpn (N : Nat) (R : Nat → V → Prop) (g : V → V → V) : Sp := fun vs H Q _ => ∃ x y n m, vs = [x, y] ∧ R n x ∧ R m y ∧ n + m ≤ N ∧ ∀ H', Same H H' → Q (g x y) H'
def spTurn : Sp := fun vs H Q _ => ∃ v t, vs = [v] ∧ Dt H v t.dat ∧ Tr.sz t ≤ 10000 ∧ ∀ a H', H a = none → Same H H' → Dt H' (.ref a) (.list (t.post.map oD)) → Q (.ref a) H'
def spLets : Sp := fun vs H Q _ => ∃ v t, vs = [v] ∧ Dt H v t.dat ∧ Tr.sz t ≤ 10000 ∧ ∀ a H', H a = none → Same H H' → Dt H' (.ref a) (.list (t.lets.map PyData.int)) → Q (.ref a) H'
def spVal (P : Program) (w : World) (K : PySem.W.Frag) (mg : Str → Option Value) (base : Heap) (k : Nat) : Sp := fun vs H Q _ => ∃ v a f t vals g R N, vs = [v, .ref a, .ref f] ∧ Dt H v t.dat ∧ Tr.sz t ≤ 10000 ∧ H a = some (.lst vals) ∧ OpAt P w K mg base k f (spOpn N R g) H ∧
  (∀ n m x y, R n x → R m y → R (n + m) (g x y)) ∧ (∀ n ∈ t.lets, 0 ≤ n ∧ ∃ x, vals[n.toNat]? = some x ∧ R 1 x) ∧ t.lets.length ≤ N ∧ ∀ H', Same H H' → Q (t.ev vals g) H'
def spPick : Sp := fun vs H Q _ => ∃ p c o t ds, vs = [.ref p, o] ∧ PenOk H p c t ∧ t ≤ 900000000 ∧ Dt H o (.list ds) ∧ 0 < ds.length ∧ ds.length ≤ 900 ∧ ∀ v H' d, d ∈ ds → Dt H' v d → PenOk H' p c (t + 1) → But p H H' → Q v H'
theorem ev_txt {vals : List V} : ∀ t : Tr, (∀ n ∈ t.lets, vals[n.toNat]? = some (.str (Str.ofString (toString n) ++ "."))) → t.ev vals gJoin = .str t.txt
  | .leaf n, h => by
    show vals.getD n.toNat .non = _
    rw [List.getD_eq_getElem?_getD, h n (List.mem_singleton.mpr rfl)]
    rfl
  | .node l r, h => by
    show gJoin (l.ev vals gJoin) (r.ev vals gJoin) = _
    rw [ev_txt l fun n hn => h n (List.mem_append_left _ hn), ev_txt r fun n hn => h n (List.mem_append_right _ hn)]
    rfl
/-! sums, the first letter -/
def rInt (_ : Nat) (x : V) : Prop := ∃ i, x = .int i
def gAdd : V → V → V
  | .int a, .int b => .int (a + b)
  | _, _ => .non
def gFst : V → V → V := fun x _ => x
theorem ev_sum {vals : List V} (nm : Int → Int) : ∀ t : Tr, (∀ n ∈ t.lets, vals[n.toNat]? = some (.int (nm n))) → t.ev vals gAdd = .int (t.lets.map nm).sum
  | .leaf n, h => by
    show vals.getD n.toNat .non = .int (nm n + 0)
    rw [List.getD_eq_getElem?_getD, h n (List.mem_singleton.mpr rfl), Int.add_zero]
    rfl
  | .node l r, h => by
    show gAdd (l.ev vals gAdd) (r.ev vals gAdd) = .int ((l.lets ++ r.lets).map nm).sum
    rw [ev_sum nm l fun n hn => h n (List.mem_append_left _ hn), ev_sum nm r fun n hn => h n (List.mem_append_right _ hn), List.map_append, List.sum_append_int]
    rfl
theorem ev_fst {vals : List V} : ∀ t : Tr, ∃ n, t.lets[0]? = some n ∧ t.ev vals gFst = vals.getD n.toNat .non
  | .leaf n => ⟨n, rfl, rfl⟩
  | .node l r => by
    obtain ⟨n, h1, h2⟩ := ev_fst (vals := vals) l
    refine ⟨n, ?_, h2⟩
    show (l.lets ++ r.lets)[0]? = some n
    rw [List.getElem?_append_left l.lets_pos]
    exact h1
/-- bracketed at drawn places -/
def spBrk : Sp := fun vs H Q _ => ∃ p c v t ns, vs = [.ref p, v] ∧ PenOk H p c t ∧ t ≤ 800000000 ∧ Dt H v (.list (ns.map PyData.int)) ∧ 0 < ns.length ∧ ns.length ≤ 300 ∧
  ∀ (v' : V) (H' : Hp) (b : Tr), b.lets = ns → Dt H' v' b.dat → PenOk H' p c (t + ns.length) → But p H H' → Q v' H'
def spComb : Sp := fun vs H Q _ => ∃ (v : V) (way : Int) (ns : List Int), vs = [v, .int way] ∧ Dt H v (.list (ns.map PyData.int)) ∧ 0 < ns.length ∧ ns.length ≤ 1000 ∧ ∀ (v' : V) (H' : Hp) (b : Tr), b.lets = ns → Same H H' → Dt H' v' b.dat → Q v' H'
end Fp

/-! a text times 0, 1 or 2 -/
namespace Fp
open PySem PySem.Spec PyProof.Rows L2
/-- no sign of the text is past the last one -/
def OkS (w : Str) : Prop := (PyData.str w).canLay0 = true
instance (w : Str) : Decidable (OkS w) := inferInstanceAs (Decidable ((PyData.str w).canLay0 = true))
theorem okS_iff {w : Str} : OkS w ↔ ∀ c ∈ w.cps.toList, c < 1114112 := by
  have e : (PyData.str w).canLay0 = w.cps.all fun c => decide (c < 1114112) := by
    unfold PyData.canLay0
    rfl
  unfold OkS
  rw [e, ← Array.all_toList, List.all_eq_true]
  exact ⟨fun h c hc => of_decide_eq_true (h c hc), fun h c hc => decide_eq_true (h c hc)⟩
theorem okS_app {a b : Str} (ha : OkS a) (hb : OkS b) : OkS (a ++ b) := okS_iff.mpr fun c hc => by
  have e : (a ++ b).cps.toList = a.cps.toList ++ b.cps.toList := by
    show (a.cps ++ b.cps).toList = _
    rw [Array.toList_append]
  rw [e] at hc
  rcases List.mem_append.mp hc with h | h
  · exact okS_iff.mp ha c h
  · exact okS_iff.mp hb c h
theorem okS_one {c : Nat} (h : c < 1114112) : OkS ⟨#[c]⟩ := okS_iff.mpr fun x hx => by
  have : x = c := by simpa using hx
  omega
theorem okS_at {z : Str} (h : OkS z) {j : Nat} {c : Nat} (hj : z.cps.toList[j]? = some c) : OkS ⟨#[c]⟩ := okS_one (okS_iff.mp h c (List.mem_of_getElem? hj))
section
variable {X : Cx}
/-- which text it is, is not told, but that it is short -/
def rMulS : R2 := fun x y H Q => ∃ z n, x = .str z ∧ y = .int n ∧ 0 ≤ n ∧ n < 3 ∧ z.length ≤ 100 ∧ OkS z ∧ ∀ r : Str, r.length ≤ 200 → OkS r → Q (.str r) H
theorem op_mulS : OpR X (binaryOp .Mult) rMulS := by
  intro pins s σ H x y v u Q I rx ry h
  obtain ⟨z, n, rfl, rfl, h0, h1, hz, ok, q⟩ := h
  obtain ⟨t, rfl⟩ := rx
  obtain ⟨t', rfl⟩ := ry
  have hn : n = 0 ∨ n = 1 ∨ n = 2 := by omega
  rcases hn with rfl | rfl | rfl
  · exact PySem.P.mul_str_none (by decide) (by decide) ⟨.str _, H, I.tok _, ⟨_, rfl⟩, q _ (by decide) (by decide +kernel)⟩
  · refine PySem.P.mul_str (by decide) (fun _ e => by cases e) (fun _ e => by cases e) ?_
    show (Made.val (.str z t)).post _ s
    exact ⟨.str z, H, I, ⟨_, rfl⟩, q _ (by omega) ok⟩
  · refine PySem.P.mul_str (by decide) (fun _ _ => by omega) (fun _ _ => ?_) ?_
    · unfold Builtin.Str.tooLong
      have : z.length * (2 : Int).toNat ≤ 200 := by
        show z.length * 2 ≤ 200
        omega
      have big : 200 ≤ sizeLine := by decide
      exact decide_eq_false (by omega)
    · by_cases h0 : z.length = 0
      · have e : ((2 : Int) == 1 || z.length == 0) = true := by rw [h0]; rfl
        rw [if_neg (by decide), if_pos e]
        exact ⟨.str z, H, I, ⟨_, rfl⟩, q _ (by omega) ok⟩
      · have e : ((2 : Int) == 1 || z.length == 0) = false := by
          have : (z.length == 0) = false := by simpa using h0
          rw [this]
          rfl
        rw [if_neg (by decide), e, if_neg (by decide)]
        have l2 : (((#[] : Array Nat) ++ z.cps) ++ z.cps).size ≤ 200 := by
          have : z.cps.size = z.length := rfl
          rw [Array.size_append, Array.size_append]
          show 0 + z.cps.size + z.cps.size ≤ 200
          omega
        have l3 : OkS ⟨((#[] : Array Nat) ++ z.cps) ++ z.cps⟩ := okS_iff.mpr fun c hc => by
          have : c ∈ z.cps.toList := by
            have h : c ∈ (((#[] : Array Nat) ++ z.cps) ++ z.cps).toList := hc
            rw [Array.toList_append, Array.toList_append] at h
            rcases List.mem_append.mp h with h | h
            · rcases List.mem_append.mp h with h | h
              · exact absurd h (by simp)
              · exact h
            · exact h
          exact okS_iff.mp ok c this
        exact ⟨Nat.le_trans l2 (by decide), ⟨.str _, H, I.tok _, ⟨_, rfl⟩, q _ l2 l3⟩⟩
end
end Fp

/-! try with several clauses that name what they catch -/
namespace Fp
open PySem PySem.Spec PyProof.Rows L2
/-- a clause: its class, the slot of its name, its suite -/
abbrev Cl1 := Value × Nat × (Addr → Value → Option Addr → TS)
def endsBut (i : Nat) (D : Ends) : Ends :=
  { nx := fun σ H => D.nx (σ.set i none) H
    rt := D.rt
    bk := fun σ H => D.bk (σ.set i none) H
    ct := fun σ H => D.ct (σ.set i none) H }
def wCls (K : PySem.W.Frag) (Wout : WX) (D : Ends) : List Cl1 → WX
  | [] => Wout
  | (c, i, ts) :: r => fun cls d σ H => ∃ b, PySem.W.exmOne K cls c = some b ∧
      (b = true → ∀ a, H a = none → ts a cls d (endsBut i D) (σ.set i (some (.ref a))) H) ∧ (b = false → wCls K Wout D r cls d σ H)
inductive ClsOk (X : Cx) : List ExceptHandler → List Cl1 → Prop
  | nil : ClsOk X [] []
  | cons {x n : Str} {c : Value} {i : Nat} {ts : Addr → Value → Option Addr → TS} {b0 : Stmt} {su : List Stmt} {p1 p2 : Pos} {hds : List ExceptHandler} {l : List Cl1}
      (hi : X.N[i]? = some n) (hl : X.env.kindOf n = some .local) (hc : Names X x c)
      (hsu : ∀ (a : Addr) (oe : Obj) (cls : Value) (d : Option Addr) (pn : List (Addr × Obj)), Zc cls d oe → (∃ vs, oe.data = .fields vs) → PSs (X.suite a ((a, oe) :: pn)) (b0 :: su) (ts a cls d))
      (r : ClsOk X hds l) : ClsOk X (.ExceptHandler (some (.Name x p1)) (some n) (b0 :: su) p2 :: hds) ((c, i, ts) :: l)
section
variable {X : Cx} {body : List Stmt} {h0 : ExceptHandler} {hds : List ExceptHandler} {l : List Cl1} {pos : Pos} {tb : WX → TS} {Wout : WX}
theorem ps_try_cl (hs : X.stack = X.env :: X.outer) (hf : X.env.frame = some X.env.locals) (hN : X.N.Nodup) (tk : Takes X Wout)
    (hb : ∀ (W : WX) (pn : List (Addr × Obj)) (xe : Value → Shared → Prop), Takes (X.tr pn xe) W → PassesOwn (model X.prog X.w) X.A X.env xe → PSs (X.tr pn xe) body (tb W))
    (hh : ClsOk X (h0 :: hds) l) : PS X (.Try body (h0 :: hds) [] [] pos) (fun D σ H => tb (wCls X.K Wout D l) D σ H) := by
  refine ⟨fun pins s σ H D I h => ?_⟩
  have okX := I.ok
  have frX : X.A.frames = some (X.env :: X.outer) := by
    rw [okX.frames, hs]
  refine wpAny_Try_except ?_
  refine wpAny_mono ((hb (wCls X.K Wout D l) (X.pn ++ pins) (fun e s1 =>
      wpAny (model X.prog X.w) X.A (noteFrame e X.env) (fun _ s2 =>
        wpAny (model X.prog X.w) X.A (setFlight e none) (fun _ s3 =>
          wpAny (model X.prog X.w) X.A (handleBy e X.env (h0 :: hds)) (SP X pins D) X.xe s3) X.xe s2) X.xe s1)
      (fun u sx inAir => ?_) PassesOwn.looking).run [] s σ H D (I.toTry _) h) (fun f s1 hsp => ?_) (fun e s1 he => he)
  · obtain ⟨a, B, sJ, pinsA, σA, HA, cls, d, rfl, JA, nbA, upA, skyA, naA, osA, agA, wA⟩ := inAir
    have J : Inv X pins σA HA sJ := JA.ofTry okX
    have sky2 : Sky B (X.env :: X.outer) a (Zc cls d) X.env.locals sx.heap := by
      rw [← hs]
      exact skyA
    show wpAny (model X.prog X.w) X.A (noteFrame (.ref a) X.env) _ _ _
    refine Sky.land Zc.steady frX hf sky2 fun hp fl up => ?_
    have JL : Inv X pins σA HA { sx with heap := hp } := J.landed nbA fl.1 (upA.trans up) osA agA
    obtain ⟨oe, fv, hoe, hzc, hdt⟩ := fl.there
    have noFrame : ∀ {hq : Heap} {o : Obj} {vq : Array Value}, hq.FunFrames B (X.env :: X.outer) → hq.get? a = some o → o.data = .fields vq → a ∉ frs (X.env :: X.outer) := fun {hq o vq} ff e dd hm => by
      obtain ⟨_, o2, e2, hnf⟩ := ff.mem hm
      rw [e] at e2
      cases e2
      exact hnf _ dd
    have nfr := noFrame fl.2.2.1 hoe hdt
    have nLoc : a ≠ X.env.locals := fun z => nfr (List.mem_filterMap.mpr ⟨X.env, List.mem_cons_self, by rw [hf, z]⟩)
    have nFs : a ∉ X.fs := fun hm => by
      obtain ⟨e, he, q⟩ := List.mem_filterMap.mp hm
      exact nfr (List.mem_filterMap.mpr ⟨e, List.mem_cons_of_mem _ he, q⟩)
    have SL := JL.suite hoe hdt naA nLoc nFs
    have go : ∀ {hs2 : List ExceptHandler} {l2 : List Cl1}, ClsOk X hs2 l2 → wCls X.K Wout D l2 cls d σA HA →
        wpAny (model X.prog X.w) X.A (handleBy (.ref a) X.env hs2) (SP X pins D) X.xe { sx with heap := hp } := by
      intro hs2 l2 hk
      induction hk with
      | nil =>
        intro w
        refine wpAny_handleBy_nil ?_
        obtain ⟨k1, k2, k3, oe2, vs2, T, oT, ts2, he2, hz2, hd2, hv1, hr2⟩ := id fl
        unfold PySem.passOn
        refine wpAny_bind (wpAny_field he2 hd2 hv1 ?_)
        rw [if_neg (show ¬ ((Value.ref T == Value.none) = true) by simp)]
        have fin : wpAny (model X.prog X.w) X.A (setFlight (.ref a) X.env.frame) (fun _ s4 =>
            wpAny (model X.prog X.w) X.A (throw (.ref a) : Sem Flow) (SP X pins D) X.xe s4) X.xe { sx with heap := hp } := by
          rw [hf]
          refine HandSPX.setFlight_upZ fl fun h4 hh4 up4 => wpAny_throw (tk _ _ ?_)
          refine ⟨a, B, sJ, pins, σA, HA, cls, d, rfl, J, nbA, (upA.trans up).trans up4, .inr (.inr ?_), naA, osA, agA, w⟩
          rw [hs]
          exact hh4
        first
          | exact wpAny_bind (wpAny_pure (wpAny_bind fin))
          | exact wpAny_bind fin
      | @cons x n c i ts b0 su p1 p2 hds2 l2 hi hl hc hsu r ih =>
        intro w
        obtain ⟨b, hb1, hyes, hno⟩ := w
        have hloc : Loc X.env.scope n := .inl hl
        refine wpAny_handleBy_cons (codeAny_handlers_test ?_) (by intro q; cases q)
        have LT : PySem.W.Looks (model X.prog X.w) hp (typeOf (.ref a)) cls := fun A2 Q2 E2 s2 k q =>
          wpAny_typeOf_ref (k _ _ hoe) (by rw [hzc.1]; exact q)
        have LM := PySem.W.exm_one (M := model X.prog X.w) JL.kIn LT hb1
        have test : ∀ {Q2 E2 : Value → Shared → Prop}, Q2 c { sx with heap := hp } →
            wpAny (model X.prog X.w) (X.A.mark (some (.ref a))) (eval (.Name x p1) X.env) Q2 E2 { sx with heap := hp } := fun {Q2 E2} q => by
          obtain ⟨g1, g2, g3 | ⟨g3, g4, g5⟩⟩ := hc
          · exact ld_glob (X := X.suite a ((a, oe) :: (X.pn ++ pins))) SL g1 g3 q g2
          · exact ld_blt (X := X.suite a ((a, oe) :: (X.pn ++ pins))) SL g1 g3 g4 q g5 g2
        refine test (LM.here ?_)
        cases b with
        | true =>
          refine codeAny_handlers_suite_as ?_
          refine HandSPX.lands_againZ fl fun h4 fl4 up4 => ?_
          have J4 : Inv X pins σA HA { sx with heap := h4 } := J.landed nbA fl4.1 ((upA.trans up).trans up4) osA agA
          obtain ⟨oe4, fv4, hoe4, hz4, hd4⟩ := fl4.there
          have S4 := J4.suite hoe4 hd4 naA nLoc nFs
          refine store_ok (X := X.suite a ((a, oe4) :: (X.pn ++ pins))) (v := .ref a) S4 hN hi hloc rfl (fun s5 S5 => ?_) (.inr hl)
          refine wpAny_mono ((hsu a oe4 cls d (X.pn ++ pins) hz4 ⟨_, hd4⟩).run [] s5 _ HA _ S5 (hyes rfl a naA)) (fun f s6 hsp => ?_) (fun _ _ z => False.elim z)
          have close : ∀ {σ6 : L2.St} {H6 : Hp} {Q6 : Shared → Prop}, Inv (X.suite a ((a, oe4) :: (X.pn ++ pins))) [] σ6 H6 s6 →
              (∀ s7, Inv X pins (σ6.set i none) H6 s7 → Q6 s7) →
              wpAny (model X.prog X.w) X.A (do bindName X.env n .none; unbindBehindTheSuite X.env n p2) (fun _ s7 => Q6 s7) X.xe s6 :=
            fun {σ6 H6 Q6} S6 hq => gone_ok (S6.unsuite okX) hN hi hl hq
          cases f with
          | next =>
            obtain ⟨σ6, H6, S6, q6⟩ := hsp
            exact close S6 fun s7 J7 => ⟨_, _, J7, q6⟩
          | brk =>
            obtain ⟨σ6, H6, S6, q6⟩ := hsp
            exact close S6 fun s7 J7 => ⟨_, _, J7, q6⟩
          | cont =>
            obtain ⟨σ6, H6, S6, q6⟩ := hsp
            exact close S6 fun s7 J7 => ⟨_, _, J7, q6⟩
          | ret u =>
            obtain ⟨v6, σ6, H6, S6, r6, q6⟩ := hsp
            exact close S6 fun s7 J7 => ⟨_, _, _, J7, r6, q6⟩
        | false =>
          show wpAny _ X.A (handleBy (.ref a) X.env hds2) _ _ _
          exact ih (hno rfl)
    exact go hh wA
  · cases f with
    | next =>
      obtain ⟨σ2, H2, J2, q⟩ := hsp
      exact wpAny_execs_nil ⟨σ2, H2, J2.ofTry okX, q⟩
    | brk =>
      obtain ⟨σ2, H2, J2, q⟩ := hsp
      exact ⟨σ2, H2, J2.ofTry okX, q⟩
    | cont =>
      obtain ⟨σ2, H2, J2, q⟩ := hsp
      exact ⟨σ2, H2, J2.ofTry okX, q⟩
    | ret u =>
      obtain ⟨v, σ2, H2, J2, r, q⟩ := hsp
      exact ⟨v, σ2, H2, J2.ofTry okX, r, q⟩
end
end Fp
namespace Fp
open PySem PySem.Spec PySem.Calls PyProof.Rows PySem.W
section
variable {prog : Program} {w : World} {A : Around} {E : Value → Shared → Prop} {s : Shared} {K : Frag} {x D : Addr} {ox : Obj} {od : Option Obj}
/-- __class__ of an instance of an own exception class, whatever its dict -/
theorem exc_class {Q : Option Value → Shared → Prop} (C : L2.ExcC K D) (X : K.In s.heap) (I : InstAt s.heap x ox D od) (h : Q (some (.ref D)) { s with toks := s.toks + 1 }) :
    wpAny (model prog w) A (getAttr? (.ref x) "__class__") Q E s := by
  have hcls : (clsIn K D).isSome = true := by
    obtain ⟨cd, hc, _⟩ := any_some C.hd
    rw [hc]
    rfl
  have hf : findObj K D od "__class__" = some (.bind (.builtin "getset_descriptor.__get__") (.builtin "object.__class__")) := by
    cases od with
    | none => exact findObj_dataN hcls C.ha C.hn C.ht
    | some o => exact findObj_data hcls C.ha C.hn C.ht
  obtain ⟨hp, g, d, t, os⟩ := s
  have T0 := I.type (M := model prog w)
  have T1 := looks_findIn (M := model prog w) X C.hg
  have T2 := looks_findIn (M := model prog w) X C.hk
  have T3 := looks_find (M := model prog w) X I hf
  have isB : Looks (model prog w) hp (isInstance (.ref x) (.type "BaseException")) true :=
    T0.andThen (looks_subIn X C.hs)
  have z0 : (false && onTheHeap (Value.builtin "BaseException.__getattribute__")) = false := by rfl
  have z1 : (onTheHeap (Value.ref D) && Value.builtin "BaseException.__getattribute__" ==
      Value.builtin "object.__getattribute__") = false := by
    have : (Value.builtin "BaseException.__getattribute__" ==
      Value.builtin "object.__getattribute__") = false := by decide +kernel
    rw [this]
    rfl
  unfold getAttr? getAttrBy? getAttrBy
  refine wpAny_bind (wpAny_mkText (wpAny_bind (wpAny_attempt (wpAny_holding (wpAny_bind
    (T0.at (wpAny_bind (T1.at ?_))))))))
  show wpAny _ _ (if (onTheHeap (Value.ref D) && Value.builtin "BaseException.__getattribute__" ==
    Value.builtin "object.__getattribute__") = true then _ else _) _ _ _
  rw [z1, if_neg (by decide)]
  unfold getAttrByItsOwn hookBefore
  refine wpAny_bind ?_
  rw [if_pos (show onTheHeap (Value.ref D) = true by rfl)]
  refine T2.at ?_
  refine wpAny_bind (wpAny_attempt (wpAny_holding ?_))
  unfold callGetattribute
  rw [z0, if_neg (by decide)]
  unfold boundAndCalled
  rw [PySem.F.excAttr_ValueError.ga.bind (Value.ref x)]
  refine wpAny_bind (wpAny_pure ?_)
  show wpAny _ _ (call (.builtin "BaseException.__getattribute__")
    [.ref x, .str "__class__" t]) _ _ _
  refine wpAny_call (codeAny_call_builtin PySem.F.excAttr_ValueError.ga.plain
    PySem.F.entry_bexc_ga ?_)
  refine @check_slot (model prog w) _ _ ⟨hp, g, d, t + 1, os⟩ "BaseException.__getattribute__" "BaseException"
    "__getattribute__" (.ref x) [.str "__class__" t] [] _ (by decide +kernel) (by decide +kernel) isB
    (PySem.F.args_bexc_ga (.ref x) (.str "__class__" t)) ?_
  unfold Builtin.«object.__getattribute__»
  refine wpAny_bind (wpAny_of_eq (a := ((Value.ref x : Value), [Value.str "__class__" t]))
    (by first | rfl | (simp only [slotArgs]; rfl)) ?_)
  refine wpAny_bind (wpAny_pure (wpAny_bind (T0.at (wpAny_bind (T3.at ?_)))))
  show wpAny _ _ (holding [Value.builtin "object.__class__"] (call (.builtin "getset_descriptor.__get__")
    [.builtin "object.__class__", .ref x, .ref D]) >>= ret) _ _ _
  refine wpAny_bind (wpAny_holding (wpAny_call (class_get (s := ⟨hp, g, d, t + 1, os⟩)
    (ox := ox) (od := od) X I C.hm ?_)))
  refine wpAny_pure ?_
  show wpAny _ _ (handedOut (.ref D)) _ _ _
  rw [handedOut_of (v := Value.ref D) (by rfl)]
  first
    | exact wpAny_pure (wpAny_pure h)
    | exact wpAny_pure h
    | exact wpAny_pure (wpAny_bind (wpAny_pure (wpAny_pure h)))
/-- isinstance may be asked of it -/
theorem kit_exc (C : L2.ExcC K D) : KitX K (.ref x) (.ref D) (fun h => ∃ od, InstAt h x ox D od) where
  ty := fun _ _ _ ⟨_, I⟩ => I.type
  it := fun _ _ X _ => by
    obtain ⟨cdD, hcD, _⟩ := any_some C.hd
    unfold clsIn at hcD
    split at hcD
    · rename_i c1 d1 cd1 sl1 ho
      intro A2 Q2 E2 s2 k q
      unfold isType loadHead
      exact wpAny_bind (wpAny_loadPart (k _ _ (X _ _ ho))
        (wpAny_pure q))
    · cases hcD
  ne := fun h tp dd its n sl X htp => by
    obtain ⟨cdD, hcD, _⟩ := any_some C.hd
    refine Bool.eq_false_iff.mpr fun q => ?_
    obtain rfl : D = tp := Value.ref.inj (beq_iff_eq.mp q)
    unfold clsIn at hcD
    split at hcD
    · rename_i c1 d1 cd1 sl1 ho
      have z := (X _ _ ho).symm.trans htp
      cases z
    · cases hcD
  ca := fun X ⟨od, I⟩ k => exc_class (od := od) C X I k
end
end Fp
namespace Fp
open PySem PySem.Spec PyProof.Rows L2
/-- isinstance(e, c), e the exception that the suite holds, d its dict -/
def rIsX (K : PySem.W.Frag) (a : Addr) (cls : Value) (d : Option Addr) : List V → Hp → VK → Prop := fun xs H Q => ∃ (c : V) (cv : Value) (b : Bool) (D : Addr), xs = [.ref a, c] ∧ cls = .ref D ∧ (∀ u, RelV c u → u = cv) ∧ PySem.W.kitOne K (.ref D) cv = some b ∧ ExcC K D ∧ (∀ dd, d = some dd → ∃ fs, H dd = some (.xd fs)) ∧ Q (.bl b) H
theorem call_isX {X : Cx} {K : PySem.W.Frag} {a : Addr} {d : Option Addr} {oe : Obj} {cls : Value} {pn : List (Addr × Obj)} (hz : Zc cls d oe) (hf : ∃ vs, oe.data = .fields vs) (hK : X.K = K := by rfl) :
    CallR (X.suite a ((a, oe) :: pn)) (.builtin "isinstance") (rIsX K a cls d) := by
  subst hK
  intro pins s σ H xs us Q I r h
  obtain ⟨c, cv, b, D, rfl, rfl, hcv, e, C, hd, q⟩ := h
  cases r with
  | cons rx rr =>
    cases rr with
    | cons rt rr =>
      cases rr
      cases rx
      have ec := hcv _ rt
      subst ec
      obtain ⟨hget, _⟩ := I.pin (a, oe) (List.mem_append_left _ List.mem_cons_self)
      obtain ⟨vs, hv⟩ := hf
      have J : ∃ od, PySem.W.InstAt s.heap a oe D od := by
        obtain ⟨h1, h2⟩ := hz
        cases d with
        | none =>
          refine ⟨none, hget, h1, by unfold PySem.W.notCls; rw [hv] <;> rfl, ?_⟩
          rw [h2]
          trivial
        | some dd =>
          obtain ⟨fs, hdd⟩ := hd dd rfl
          obtain ⟨mA, hns, _⟩ : ObjOk X.prog X.w H s.heap dd (.xd fs) := I.hok dd _ hdd
          obtain ⟨od, ho, _⟩ := lookIn_ns hns
          refine ⟨some od, hget, h1, by unfold PySem.W.notCls; rw [hv] <;> rfl, ?_⟩
          rw [h2]
          exact ho
      exact PySem.W.kia_one (kit_exc C) I.kIn J e (fun z => nomatch z) fun tk => ⟨.bl b, H, I.kept (t' := tk) fun _ _ z => z, rfl, q⟩
end Fp

/-! own exceptions made as values; super().__init__() in their __init__ -/
namespace Fp
open PySem PySem.Spec PySem.Calls PyProof.Rows PySem.W
/-- the body super().__init__() -/
def supBody (p1 p2 p3 p4 p5 : Pos) : List Stmt := [.Expr (.Call (.Attribute (.Call (.Name "super" p1) [] [] p2) "__init__" p3) [] [] p4) p5]
/-- what the written part says of such a class, at C, and of its __init__ -/
structure SupC (K : Frag) (prog : Program) (C fI : Addr) : Prop where
  fn : ∃ (oc : Value) (od : Option Addr) (params : Arguments) (scope : Scope) (dV kV doc pm ct cl ccl : Value) (an cld cdd : Option Addr) (osl csl ccs : Array (Option Value)) (cc cda : Addr) (q : Str) (p1 p2 p3 p4 p5 : Pos) (vs : Array Value) (file : Str) (tf : Tok) (ar : Arg),
    K.lookup fI = some ⟨oc, od, .func (ksFn "__init__" q params (supBody p1 p2 p3 p4 p5) scope dV kV doc pm an (.ref cda) ct cc), osl⟩ ∧
    codeIn K (.ref cda) q = true ∧ K.lookup cc = some ⟨cl, cld, .cell (some (.ref C)), csl⟩ ∧
    K.lookup cda = some ⟨ccl, cdd, .fields vs, ccs⟩ ∧ vs[2]? = some (.str file tf) ∧ ((prog.main.file : Str) == file) = true ∧
    scope.kind = .function ∧ scope.isCoroutine = false ∧ scope.isGenerator = false ∧ (∀ x ∈ scope.names, x.2 ≠ .cell) ∧
    scope.names.lookup ("super" : Str) = some .globalImplicit ∧ scope.names.lookup ("__class__" : Str) = some .free ∧ scope.names.lookup ("self" : Str) = some .local ∧
    (params.posonlyargs ++ params.args).head? = some ar ∧ ar.arg = ("self" : Str) ∧
    (∀ L : Addr, ∃ pl : Sem Bool, eval (.Call (.Attribute (.Call (.Name "super" p1) [] [] p2) "__init__" p3) [] [] p4) (callEnv (ksFn "__init__" q params (supBody p1 p2 p3 p4 p5) scope dV kV doc pm an (.ref cda) ct cc) L fI) = (do
      let ov ← attributeBase (.Call (.Name "super" p1) [] [] p2) "__init__" (callEnv (ksFn "__init__" q params (supBody p1 p2 p3 p4 p5) scope dV kV doc pm an (.ref cda) ct cc) L fI) (eval (.Call (.Name "super" p1) [] [] p2) (callEnv (ksFn "__init__" q params (supBody p1 p2 p3 p4 p5) scope dV kV doc pm an (.ref cda) ct cc) L fI))
      standAt p3.atName
      let (f, first) ← holding [ov] (getMethod ov "__init__" pl)
      callWith p4 f first (backTo p4 (starEach [] (callEnv (ksFn "__init__" q params (supBody p1 p2 p3 p4 p5) scope dV kV doc pm an (.ref cda) ct cc) L fI))) [])) ∧
    (∀ L : Addr, interactive (callEnv (ksFn "__init__" q params (supBody p1 p2 p3 p4 p5) scope dV kV doc pm an (.ref cda) ct cc) L fI) = false) ∧
    (∀ L : Addr, swapsWith (.Call (.Attribute (.Call (.Name "super" p1) [] [] p2) "__init__" p3) [] [] p4) none p5.line (callEnv (ksFn "__init__" q params (supBody p1 p2 p3 p4 p5) scope dV kV doc pm an (.ref cda) ct cc) L fI) = pure false) ∧
    (∀ u : Value, bindArgs (ksFn "__init__" q params (supBody p1 p2 p3 p4 p5) scope dV kV doc pm an (.ref cda) ct cc) ⟨[u], []⟩ = pure [(("self" : Str), u)])
  top : (prog.main.scope.names.lookup ("super" : Str)).isSome = false
  opq : nsIn K cStatics "thirdparty.any" = some none
  up : ks_superIn K C C "__init__" = some (some (.builtin "ValueError.__init__"))
  ve : subIn K (.ref C) (.type "ValueError") = some true
  me : mroIn K C (.ref C) = some true
section
variable {prog : Program} {w : World} {A : Around} {K : Frag} {mg : Str → Option Value} {base : Heap} {C fI e t0 : Addr} {R : Result → Shared → Prop} {h : Heap} {g : Array GenState} {d : Drawn} {t : Nat} {os : OsState}
theorem run_sup (S : SupC K prog C fI) (T : L2.OexC K C) (M : L2.Mod K mg base) (hs : mg "super" = none) (kb : ∀ b o, base.get? b = some o → h.get? b = some o) (hr : A.depth < recursionLimit)
    (he : h.get? e = some (HandSPX.excO C t0))
    (hq : ∀ h' t1 t', (∀ b o, b ≠ e → h.get? b = some o → h'.get? b = some o) → h'.get? e = some (HandSPX.excO C t1) → R (.ok (.ret .none)) ⟨h', g, d, t', os⟩) :
    codeAny (model prog w) A (.call (.ref fI) ⟨[.ref e], []⟩) R ⟨h, g, d, t, os⟩ := by
  obtain ⟨oc, od, params, scope, dV, kV, doc, pm, ct, cl, ccl, an, cld, cdd, osl, csl, ccs, cc, cda, q, p1, p2, p3, p4, p5, vs, file, tf, ar, hf, hcd, hcell, hcode, hvs, hfile, hk, hco, hgen, hnc, hks, hkc, hka, hp, har, hev, hit, hsw, hbind⟩ := S.fn
  obtain ⟨nm, qn, N, bs, bm, sn, sub, ab, col, dd, k0, k1, k2, k3, k5, hC, hbm⟩ := T.cls
  have hcl : clsIn K C = some { name := nm, bases := bs, mro := .ref C :: bm, ns := N, qualname := qn, hasDict := true, slotNames := sn, subclasses := sub, abstract := ab, collection := col, hasDel := false } := by
    unfold clsIn
    rw [hC] <;> rfl
  have Xh : K.In h := M.kin.keeps kb
  refine ks_codeAny_call_defAt (body := supBody p1 p2 p3 p4 p5) (binds := [(("self" : Str), .ref e)]) hr (Xh _ _ hf) rfl (M.nolimit.keeps kb) (codeRec_of Xh hcd) rfl (BindsTo.of_eq (hbind _)) hnc (fun x hx => ?_) (fun h1 hns hk1 => ?_) hco hgen hk
  · rw [List.mem_singleton.mp hx]
    exact hka
  · have X1 : K.In h1 := Xh.keeps hk1
    have he1 := hk1 _ _ he
    have glob1 : h1.Ns mainGlobals mg := M.glob.keeps fun b o z => hk1 _ _ (kb _ _ z)
    obtain ⟨mb, hmb, hbb⟩ := M.blt
    have blt1 : h1.Ns builtinsNs mb := hmb.keeps fun b o z => hk1 _ _ (kb _ _ z)
    obtain ⟨pl, hev⟩ := hev h.objs.size
    refine ks_wpAt_execs_cons (ks_wpAt_Expr_any (ks_wpAt_MethodCall (pl := pl) ?_ hev) (hit _) (hsw _))
    refine ks_wpAt_super_base (ar := ar) hks hkc (by decide) rfl (X1 _ _ hf) rfl hp rfl (X1 _ _ hcode) rfl hvs hfile S.top ?_
    refine ks_loadName_global hk hks (loadGlobal_builtin glob1 hs blt1 ((hbb _ (by decide)).trans (by decide +kernel)) ⟨rfl, ?_⟩)
    refine wpAny_loadName_free hk hkc rfl ⟨_, X1 _ _ hcell, rfl⟩ ?_
    rw [har]
    refine wpAny_loadName_local (v := .ref e) hk hka hns (by rfl) ?_
    refine ks_wpAny_isType_cls (X1 _ _ hC) rfl ⟨rfl, ?_⟩
    have Ie : InstAt h1 e (HandSPX.excO C t0) C none := ⟨he1, rfl, rfl, trivial⟩
    refine ks_wpAny_call_super (X1 _ _ hC) rfl he1 rfl (fun c z => nomatch z) (looks_mroIn X1 S.me) (fun h2 e2 k2 => ?_)
    have X2 : K.In h2 := X1.keeps k2
    have he2 := k2 _ _ he1
    have I2 : InstAt h2 e (HandSPX.excO C t0) C none := ⟨he2, rfl, rfl, trivial⟩
    have hI2 : Looks (model prog w) h2 (isInstance (.ref e) (.type "ValueError")) true := I2.type.andThen (looks_subIn X2 S.ve)
    have hup : alongIn K "__init__" (((Value.ref C :: bm).dropWhile (· != .ref C)).drop 1) = some (some (.builtin "ValueError.__init__")) := by
      have := S.up
      unfold ks_superIn at this
      rw [hcl] at this
      exact this
    refine kxs_getMethod kxs_ValueError e2 (looks_opaque X2 S.opq) (l₀ := .ref C :: bm) (fun A2 Q2 E2 s2 k q => wpAny_bind ((looks_clsIn X2 hcl) A2 _ E2 s2 k (wpAny_pure q))) rfl X2 hup hI2 (ks_ne X2 I2 hcl) (by decide) ?_
    have kP : ∀ b o, h2.get? b = some o → (h2.push (kxs_mw "ValueError.__init__" e)).get? b = some o := fun b o z => Heap.get?_push_of_some _ z
    have hu : (h2.push (kxs_mw "ValueError.__init__" e)).get? h2.objs.size = some (kxs_mw "ValueError.__init__" e) := Heap.get?_push_size _ rfl
    refine kxs_callWith (i := "ValueError.__init__") (x := e) rfl (evalArgs_empty ⟨hu, ?_⟩)
    have X3 : K.In (h2.push (kxs_mw "ValueError.__init__" e)) := X2.keeps kP
    have he3 := kP _ _ he2
    have FB := PySem.F.excBase_ValueError
    refine wpAny_call (codeAny_of_tree ?_)
    show wpAny _ _ (callAny (.ref h2.objs.size) ⟨[], []⟩) _ _ _
    simp only [callAny]
    refine wpAny_bind (wpAny_load hu ?_)
    have hmw : (Value.type "method-wrapper" == Value.type "method" || Value.type "method-wrapper" ==
      Value.type "builtin_function_or_method" || Value.type "method-wrapper" == Value.type "method-wrapper") = true := by decide
    simp only [kxs_mw, hmw, if_true]
    refine KFB.if_so (by decide) ?_
    refine wpAny_bind (check_bound_init FB.toExcCallFacts (X3 _ _ hC) he3 rfl ?_)
    refine wpAny_bind (wpAny_pure (wpAny_pure ?_))
    refine ⟨plainId_quiet FB.init.plain _, codeAny_builtin FB.initEntry ?_⟩
    refine exc_init_tree (cls := .ref C) (t0 := t0) (dv := none) (c2 := .none) (c3 := .none) (b4 := .bool false) he3 (Nat.zero_le _) (fun h4 k4 e4 t4 => ?_)
    refine wpAt_of_wpAny (wpAny_execs_nil ?_)
    exact hq _ _ _ (fun b o hb z => k4 b o hb (kP _ _ (k2 _ _ (hk1 _ _ z)))) e4
end
end Fp
namespace Fp
open PySem PySem.Spec PyProof.Rows L2
/-- an exception of the class C stands at a, with these attributes (the last one stored first) -/
def ExV (H : Hp) (a C : Addr) (fs : List (Str × V)) : Prop := (fs = [] ∧ H a = some (exo a C none)) ∨ ∃ dx, H a = some (exo a C (some dx)) ∧ H dx = some (exd dx fs)
theorem ExV.same {H H' : Hp} {a C : Addr} {fs : List (Str × V)} (h : ExV H a C fs) (e : Same H H') : ExV H' a C fs := by
  rcases h with ⟨h1, h2⟩ | ⟨dx, h1, h2⟩
  · exact .inl ⟨h1, e _ _ h2⟩
  · exact .inr ⟨dx, e _ _ h1, e _ _ h2⟩
/-- C(e, ..): its __init__ keeps sp -/
def tMkE (C : Addr) (sp : Sp) (ta : TA) : TE := fun σ H Q => ta σ H fun vs H1 => vs.length ≤ 1000 ∧ ∀ a, H1 a = none → sp (.ref a :: vs) (upd H1 a (exo a C none)) (fun v H2 => v = .non ∧ Q (.ref a) H2) C8.E0
/-- a class whose own __init__ is a def of the text -/
def Xn (P : Program) (w : World) (K : PySem.W.Frag) (mg : Str → Option Value) (base : Heap) (k : Nat) (C : Addr) (ps : List Str) (sp : Sp) : Prop :=
  ∃ fI fd, OexC K C ∧ PySem.W.findIn K (.ref C) "__init__" = some (some (.ref fI)) ∧ PySem.W.typeIn K (.ref fI) = some (.type "function") ∧ Binds K fd ps [] ∧ FnOk P w K mg base C8.CX0 k fI fd ps sp
/-- a class whose __init__ says super().__init__() -/
def Xs (K : PySem.W.Frag) (P : Program) (C : Addr) : Prop :=
  ∃ fI, OexC K C ∧ PySem.W.findIn K (.ref C) "__init__" = some (some (.ref fI)) ∧ PySem.W.typeIn K (.ref fI) = some (.type "function") ∧ SupC K P C fI
section
variable {X : Cx} {C : Addr} {k : Nat} {ps : List Str} {sp : Sp} {x : Str} {e : Expr} {es : List Expr} {p pos : Pos} {ta : TA}
theorem pkE (M : Xn X.prog X.w X.K X.mg X.base k C ps sp) (hr : Room (k + 1) X.A) (hg : Gl X x) (hm : X.mg x = some (.ref C)) (ha : PA X (e :: es) ta)
    (hdb : (x == ("__debug__" : Str)) = false := by decide) (he : starEach (e :: es) X.env = (false, eval e X.env) :: starEach es X.env := by rfl) (hpl : (backTo pos (starEach es X.env)).any (·.1) = false := by rfl) :
    PE X (.Call (.Name x p) (e :: es) [] pos) (tMkE C sp ta) := by
  refine ⟨fun pins s σ H Q I hyp => ?_⟩
  obtain ⟨fI, fd, T, iC, tI, hb, F1⟩ := M
  obtain ⟨nm, q, N, bs, bm, sn, sub, ab, col, dd, k0, k1, k2, k3, k5, hC, hbm⟩ := T.cls
  refine wpAny_Call_Name_kw (ld_glob I hg hm ?_ hdb)
  refine PySem.W.callWith_K (h₀ := X.base) I.ok.mod.kin T.kC (thn (ha.run pos pins s σ H _ I hyp) fun us s1 ⟨vs, H1, I1, r1, hz, q1⟩ => ⟨I1.kIn, ?_⟩) he hpl
  show wpAny _ _ (call (.ref C) us) _ _ _
  obtain ⟨hp, g, dr, tk, os⟩ := s1
  have sz : hp.objs.size ≤ hp.objs.size + 1 := Nat.le_succ _
  have hq := q1 (hp.objs.size + 1) (I1.hok.fresh sz)
  have kk : ∀ b o, hp.get? b = some o → ((hp.push (PySem.W.kdv_tup us)).push (PySem.HandSPX.excO C hp.objs.size)).get? b = some o := fun b o z =>
    Heap.get?_push_of_some _ (Heap.get?_push_of_some _ z)
  have hget : ((hp.push (PySem.W.kdv_tup us)).push (PySem.HandSPX.excO C hp.objs.size)).get? (hp.objs.size + 1) =
      some (PySem.HandSPX.excO C hp.objs.size) := by heap_get
  have I2 : Inv X pins σ (upd H1 (hp.objs.size + 1) (exo (hp.objs.size + 1) C none)) ⟨(hp.push (PySem.W.kdv_tup us)).push (PySem.HandSPX.excO C hp.objs.size), g, dr, tk, os⟩ :=
    Inv.laid (s := ⟨hp, g, dr, tk, os⟩) (t' := tk) (a := hp.objs.size + 1) (o := exo (hp.objs.size + 1) C none) I1 kk sz (exo_ok hget)
  have r2 : Vals (V.ref (hp.objs.size + 1) :: vs) (Value.ref (hp.objs.size + 1) :: us) := .cons rfl r1
  have lenU : (Value.ref (hp.objs.size + 1) :: us).length = ps.length := by
    have z := vals_len r2
    rw [F1.len _ _ _ _ hq] at z
    exact z.symm
  have us_le : us.length ≤ sizeLine := by
    rw [← vals_len r1, sizeLine_eq]
    omega
  have bnd := hb ⟨(hp.push (PySem.W.kdv_tup us)).push (PySem.HandSPX.excO C hp.objs.size), g, dr, tk, os⟩ (Value.ref (hp.objs.size + 1) :: us) I2.kIn (by rw [List.append_nil]; exact lenU)
  rw [List.append_nil] at bnd
  refine wpAny_call (PySem.HandSPX.call_own F.excBase_ValueError (fun Y => PySem.HandSPX.refsVE_contains Y bm hbm) (I1.kIn _ _ hC) (PySem.W.looks_findIn I1.kIn iC)
    (fun self => PySem.W.bind_fn I1.kIn self tI) us_le (codeAny_mono (F1.run _ X.stack _ _ ⟨Value.ref (hp.objs.size + 1) :: us, []⟩ _ _ _ _ (hr.make C us []) (I2.env0.make C us []) bnd r2 hq) fun r sx hx => ?_))
  cases r with
  | error er => exact (show False from hx).elim
  | ok fl =>
    cases fl with
    | ret u =>
      obtain ⟨v, H2, J, rv, ev, q2⟩ := I2.after hx
      subst ev
      exact ⟨rv, .ref (hp.objs.size + 1), H2, J, rfl, q2⟩
    | next => exact False.elim hx
    | brk => exact False.elim hx
    | cont => exact False.elim hx
/-- C(), super().__init__() in its __init__ -/
def tMkS (C : Addr) : TE := fun _ H Q => ∀ a, H a = none → Q (.ref a) (upd H a (exo a C none))
theorem pkS (M : Xs X.K X.prog C) (hr : Room 2 X.A) (hg : Gl X x) (hm : X.mg x = some (.ref C)) (hs : X.mg "super" = none) (hdb : (x == ("__debug__" : Str)) = false := by decide) :
    PE X (.Call (.Name x p) [] [] pos) (tMkS C) := by
  refine ⟨fun pins s σ H Q I hyp => ?_⟩
  obtain ⟨fI, T, iC, tI, S⟩ := M
  obtain ⟨nm, q, N, bs, bm, sn, sub, ab, col, dd, k0, k1, k2, k3, k5, hC, hbm⟩ := T.cls
  refine wpAny_Call_Name_kw (ld_glob I hg hm ?_ hdb)
  refine PySem.W.callWith_K0 I.kIn T.kC ?_
  show wpAny _ _ (call (.ref C) []) _ _ _
  have bsI := I.bk
  have kI := I.kIn
  have modI := I.mod
  obtain ⟨hp, g, dr, tk, os⟩ := s
  have hn : H (hp.objs.size + 1) = none := I.hok.fresh (Nat.le_succ _)
  have kk : ∀ b o, hp.get? b = some o → ((hp.push (PySem.W.kdv_tup [])).push (PySem.HandSPX.excO C hp.objs.size)).get? b = some o := fun b o z =>
    Heap.get?_push_of_some _ (Heap.get?_push_of_some _ z)
  have hget : ((hp.push (PySem.W.kdv_tup [])).push (PySem.HandSPX.excO C hp.objs.size)).get? (hp.objs.size + 1) =
      some (PySem.HandSPX.excO C hp.objs.size) := by heap_get
  refine wpAny_call (PySem.HandSPX.call_own F.excBase_ValueError (fun Y => PySem.HandSPX.refsVE_contains Y bm hbm) (kI _ _ hC) (PySem.W.looks_findIn kI iC)
    (fun self => PySem.W.bind_fn kI self tI) (Nat.zero_le _) ?_)
  refine run_sup S T modI hs (fun b o z => kk _ _ (bsI _ _ z)) (hr.make C [] []).depth hget (fun h' t1 t' k' e' => ?_)
  have J : Inv X pins σ (upd H (hp.objs.size + 1) (exo (hp.objs.size + 1) C none)) ⟨h', g, dr, t', os⟩ :=
    Inv.laid (s := ⟨hp, g, dr, tk, os⟩) (t' := t') (a := hp.objs.size + 1) (o := exo (hp.objs.size + 1) C none) I
      (fun b u z => k' b u (Nat.ne_of_lt (Nat.lt_succ_of_lt (Heap.lt_size z))) (kk _ _ z)) (Nat.le_succ _) (exo_ok e')
  exact ⟨rfl, .ref (hp.objs.size + 1), _, J, rfl, hyp _ hn⟩
/-- e.f, e an exception that stands in the heap -/
def tFldE (K : PySem.W.Frag) (f : Str) (te : TE) : TE := fun σ H Q => te σ H fun x H1 => ∃ a C fs v, x = .ref a ∧ ExV H1 a C fs ∧ XfC K C ∧ PySem.W.findIn K (.ref C) f = some none ∧ fs.lookup f = some v ∧ Q v H1
theorem pe_fldE {K : PySem.W.Frag} {te : TE} {f : Str} (he : PE X e te) (hb : attributeBase e f X.env (eval e X.env) = eval e X.env := by rfl) (hK : X.K = K := by rfl) : PE X (.Attribute e f pos) (tFldE K f te) := by
  subst hK
  refine ⟨fun pins s σ H Q I h => ?_⟩
  refine attr_of hb (thn (he.run pins s σ H _ I h) fun u s1 hh => ?_)
  obtain ⟨y, H1, I1, rx, a, C, fs, v, rfl, hE, T, hno, l, q⟩ := hh
  obtain rfl : u = Value.ref a := rx
  rcases hE with ⟨rfl, _⟩ | ⟨dx, h1, h2⟩
  · cases l
  · obtain ⟨t1, ho⟩ := exo_at I1.hok h1
    obtain ⟨mA, hns, hr⟩ := exd_at I1.hok h2
    obtain ⟨od, hod, hl⟩ := lookIn_ns hns
    obtain ⟨u, hu, ru⟩ := RelO.some_of (v := v) (o := mA f) (by rw [← l]; exact hr f)
    have J : PySem.W.InstAt s1.heap a { cls := .ref C, dict := some dx, data := .fields #[.ref t1, .none, .none, .none, .bool false, .none] } C (some od) := ⟨ho, rfl, rfl, hod⟩
    exact HandSPX.exc_get I1.kIn J T.ga T.gg T.exC (PySem.W.findObj_own T.hdC hno rfl (by rw [hl, hu])) (handed_of ru) ⟨v, H1, I1.tok _, ru, q⟩
/-- isinstance(e, c) of such -/
def rIsV (K : PySem.W.Frag) : List V → Hp → VK → Prop := fun xs H Q => ∃ (a C : Addr) (fs : List (Str × V)) (c : V) (cv : Value) (b : Bool), xs = [.ref a, c] ∧ ExV H a C fs ∧ ExcC K C ∧ ClsV c cv ∧ PySem.W.kitOne K (.ref C) cv = some b ∧ Q (.bl b) H
theorem call_isV {K : PySem.W.Frag} (hK : X.K = K := by rfl) : CallR X (.builtin "isinstance") (rIsV K) := by
  subst hK
  intro pins s σ H xs us Q I r h
  obtain ⟨a, C, fs, c, cv, b, rfl, hE, T, hcv, ek, q⟩ := h
  obtain ⟨u1, u2, rfl, r1, r2⟩ := vals2 r
  obtain rfl : u1 = Value.ref a := r1
  have ec := hcv.eq r2
  subst ec
  have J : ∃ ox od, PySem.W.InstAt s.heap a ox C od := by
    rcases hE with ⟨_, h1⟩ | ⟨dx, h1, h2⟩
    · obtain ⟨t1, ho⟩ := exo_at I.hok h1
      exact ⟨_, none, ho, rfl, rfl, trivial⟩
    · obtain ⟨t1, ho⟩ := exo_at I.hok h1
      obtain ⟨mA, hns, _⟩ := exd_at I.hok h2
      obtain ⟨od, hod, _⟩ := lookIn_ns hns
      exact ⟨_, some od, ho, rfl, rfl, hod⟩
  obtain ⟨ox, od, J⟩ := J
  exact PySem.W.kia_one (kit_exc (ox := ox) T) I.kIn ⟨od, J⟩ ek (fun z => nomatch z) fun tk => ⟨.bl b, H, I.kept (t' := tk) fun _ _ z => z, rfl, q⟩
theorem ps_ostK {K : PySem.W.Frag} {o : Expr} {f : Str} {p' : Pos} {to te : TE} (ho : PE X o to) (he : PE X e te) (hs : swapsWith e (some (.Attribute o f p')) pos.line X.env = pure false := by rfl) (hK : X.K = K := by rfl) :
    PS X (.Assign [.Attribute o f p'] e pos) (tOst K f to te) := by
  subst hK
  exact ps_ost ho he hs
end
/-- isinstance among own classes: F and ValueError's mro behind the class itself -/
structure ClF (K : PySem.W.Frag) (F C : Addr) : Prop where
  cls : ∃ nm q N bs sn sub ab col dd k0 k1 k2 k3 k5, K.lookup C = some (excClassObj nm q C N bs (.ref F :: HandSPX.veTail) true sn sub ab col dd k0 k1 k2 k3 k5 "ValueError.__new__")
section
variable {K : PySem.W.Frag} {F C D : Addr}
theorem ClF.cd (h : ClF K F C) : ∃ cd : ClassData, PySem.W.clsIn K C = some cd ∧ cd.mro = .ref C :: .ref F :: HandSPX.veTail ∧ cd.hasDict = true := by
  obtain ⟨nm, q, N, bs, sn, sub, ab, col, dd, k0, k1, k2, k3, k5, hC⟩ := h.cls
  refine ⟨{ name := nm, bases := bs, mro := .ref C :: .ref F :: HandSPX.veTail, ns := N, qualname := q, hasDict := true, slotNames := sn, subclasses := sub, abstract := ab, collection := col, hasDel := false }, ?_, rfl, rfl⟩
  unfold PySem.W.clsIn
  rw [hC] <;> rfl
theorem ClF.mro (h : ClF K F C) (b : Value) : PySem.W.mroIn K C b = some ((Value.ref C :: Value.ref F :: HandSPX.veTail).contains b) := by
  obtain ⟨cd, h1, h2, _⟩ := h.cd
  unfold PySem.W.mroIn
  rw [h1, Option.bind_some, h2]
  rfl
theorem ClF.ty (h : ClF K F C) : PySem.W.typeIn K (.ref C) = some (.type "type") := by
  obtain ⟨nm, q, N, bs, sn, sub, ab, col, dd, k0, k1, k2, k3, k5, hC⟩ := h.cls
  unfold PySem.W.typeIn
  simp only [hC]
  rfl
theorem ClF.is (h : ClF K F C) (hD : (PySem.W.clsIn K D).isSome = true) (tD : PySem.W.typeIn K (.ref D) = some (.type "type")) (hF : D ≠ F) : PySem.W.kitOne K (.ref C) (.ref D) = some (decide (C = D)) := by
  unfold PySem.W.kitOne
  by_cases e : C = D
  · subst e
    rw [if_pos (by simp), decide_eq_true rfl]
  · rw [if_neg (by simp [e]), decide_eq_false e]
    show (if ((PySem.W.clsIn K D).isSome && PySem.W.typeIn K (.ref D) == some (.type "type")) = true then PySem.W.subIn K (.ref C) (.ref D) else none) = _
    rw [hD, tD]
    show (if (true && (some (Value.type "type") == some (Value.type "type"))) = true then PySem.W.mroIn K C (.ref D) else none) = _
    rw [if_pos (by decide), h.mro]
    have : (Value.ref C :: Value.ref F :: HandSPX.veTail).contains (.ref D) = false := by
      simp [HandSPX.veTail, Ne.symm e, hF]
    rw [this]
end
end Fp

/-! the errors of the package as a family -/
namespace Fp
open PySem PySem.Spec PyProof.Rows L2
structure EC (K : PySem.W.Frag) (F C : Addr) : Prop where
  cl : ClF K F C
  sa : PySem.W.findIn K (.ref C) "__setattr__" = some (some (.builtin "object.__setattr__"))
  ga : PySem.W.findIn K (.ref C) "__getattribute__" = some (some (.builtin "BaseException.__getattribute__"))
  gg : PySem.W.findIn K (.ref C) "__getattr__" = some none
  ca : PySem.W.findIn K (.ref C) "__class__" = some (some (.builtin "object.__class__"))
  kC : PySem.W.keepIn K (.ref C) = true
structure EFam (K : PySem.W.Frag) (F : Addr) (Cs : List Addr) : Prop where
  nd : Cs.Nodup
  nF : F ∉ Cs
  f1 : (PySem.W.clsIn K F).isSome = true
  f2 : PySem.W.typeIn K (.ref F) = some (.type "type")
  sp : PySem.W.specialIn K (.builtin "object.__class__") "__get__" = some (some (.builtin "getset_descriptor.__get__"))
  tk : PySem.W.takesIn K (.builtin "object.__class__") = some true
  ec : ∀ C ∈ Cs, EC K F C
section
variable {K : PySem.W.Frag} {F C D : Addr} {Cs : List Addr}
theorem EC.sub (h : EC K F C) (b : Value) (hb : HandSPX.veTail.contains b = true) : PySem.W.subIn K (.ref C) b = some true := by
  show PySem.W.mroIn K C b = _
  rw [h.cl.mro, List.contains_cons, List.contains_cons, hb, Bool.or_true, Bool.or_true]
theorem EC.hd (h : EC K F C) : PySem.W.hasDictIn K C = true := by
  obtain ⟨cd, h1, _, h3⟩ := h.cl.cd
  unfold PySem.W.hasDictIn
  rw [h1]
  exact h3
theorem EC.oex (h : EC K F C) : OexC K C := by
  obtain ⟨nm, q, N, bs, sn, sub, ab, col, dd, k0, k1, k2, k3, k5, hC⟩ := h.cl.cls
  exact ⟨⟨nm, q, N, bs, _, sn, sub, ab, col, dd, k0, k1, k2, k3, k5, hC, by show (HandSPX.veTail == HandSPX.veTail) = true; decide +kernel⟩, h.sa, h.sub _ (by decide +kernel), h.cl.ty, h.kC⟩
theorem EC.xf (h : EC K F C) : XfC K C := ⟨h.ga, h.gg, h.sub _ (by decide +kernel), h.hd⟩
theorem EFam.exc (f : EFam K F Cs) (h : C ∈ Cs) : ExcC K C := by
  have e := f.ec C h
  exact ⟨e.ga, e.gg, e.sub _ (by decide +kernel), e.hd, e.ca, f.sp, f.tk, e.sub _ (by decide +kernel)⟩
theorem EFam.is (f : EFam K F Cs) (h : C ∈ Cs) (hD : D ∈ Cs) : PySem.W.kitOne K (.ref C) (.ref D) = some (decide (C = D)) := by
  obtain ⟨cd, h1, _⟩ := (f.ec D hD).cl.cd
  exact (f.ec C h).cl.is (by rw [h1]; rfl) (f.ec D hD).cl.ty fun z => f.nF (z ▸ hD)
theorem EFam.isF (f : EFam K F Cs) (h : C ∈ Cs) : PySem.W.kitOne K (.ref C) (.ref F) = some true := by
  have ne : C ≠ F := fun z => f.nF (z ▸ h)
  unfold PySem.W.kitOne
  rw [if_neg (by simp [ne])]
  show (if ((PySem.W.clsIn K F).isSome && PySem.W.typeIn K (.ref F) == some (.type "type")) = true then PySem.W.mroIn K C (.ref F) else none) = _
  rw [f.f1, f.f2, if_pos (by decide), (f.ec C h).cl.mro]
  have : (Value.ref C :: Value.ref F :: HandSPX.veTail).contains (.ref F) = true := by simp
  rw [this]
theorem EFam.isVE (f : EFam K F Cs) (h : C ∈ Cs) : PySem.W.kitOne K (.ref C) (.type "ValueError") = some true := by
  unfold PySem.W.kitOne
  rw [if_neg (by simp)]
  show (if PySem.W.kitMeta "ValueError" = true then PySem.W.subIn K (.ref C) (.type "ValueError") else none) = _
  rw [if_pos (by decide +kernel), (f.ec C h).sub _ (by decide +kernel)]
end
/-! ### promises -/
/-- self.f = v -/
def spI (C : Addr) (f : Str) : Sp := fun vs H Q _ => ∃ a v, vs = [.ref a, v] ∧ H a = some (exo a C none) ∧ ∀ H', (∀ b o, H b = some o → b ≠ a → H' b = some o) → ExV H' a C [(f, v)] → Q .non H'
def spIo (C : Addr) (f : Str) : Sp := fun vs H Q _ => ∃ a b xs, vs = [.ref a, .ref b] ∧ H a = some (exo a C none) ∧ H b = some (.lst xs) ∧ ∀ H' l, (∀ b o, H b = some o → b ≠ a → H' b = some o) → H' l = some (.lst xs) → ExV H' a C [(f, .ref l)] → Q .non H'
def spI2 (C : Addr) (f g : Str) : Sp := fun vs H Q _ => ∃ a v w, vs = [.ref a, v, w] ∧ H a = some (exo a C none) ∧ ∀ H', (∀ b o, H b = some o → b ≠ a → H' b = some o) → ExV H' a C [(g, w), (f, v)] → Q .non H'
def spOwnL : Sp := fun vs H Q _ => ∃ b xs, vs = [.ref b] ∧ H b = some (.lst xs) ∧ ∀ l, H l = none → Q (.ref l) (upd H l (.lst xs))
def spPickS : Sp := fun vs H Q _ => ∃ p c z t, vs = [.ref p, .str z] ∧ PenOk H p c t ∧ t ≤ 900000000 ∧ 0 < z.length ∧ z.length ≤ 900 ∧ OkS z ∧ ∀ (c' : Nat) (H' : Hp), OkS ⟨#[c']⟩ → PenOk H' p c (t + 1) → But p H H' → Q (.str ⟨#[c']⟩) H'
def barS : List Str := ["tags", "sums", "state", "on", "go", "end", "none", "x"]
def spBar : Sp := fun vs H Q _ => vs = [] ∧ ∀ l H', H l = none → Same H H' → H' l = some (.lst (barS.map V.str)) → Q (.ref l) H'
def spNames : Sp := fun vs H Q _ => ∃ (p c : Addr) (m t : Nat), vs = [.ref p, .int (m : Int)] ∧ PenOk H p c t ∧ t ≤ 800000000 ∧ m ≤ 1000 ∧ ∀ (a : Addr) (H' : Hp) (zs : List Str), (0 < m → zs ≠ []) → zs.length ≤ 100 → (∀ z ∈ zs, z.length ≤ 300) → (∀ z ∈ zs, OkS z) → Dt H' (.ref a) (.list (zs.map PyData.str)) → PenOk H' p c (t + 200) → But p H H' → Q (.ref a) H'
def spClsN (Cs : List Addr) : Sp := fun vs H Q _ => ∃ a C fs, vs = [.ref a] ∧ ExV H a C fs ∧ C ∈ Cs ∧ Q (.int 1) H
def spIsOne (Cs : List Addr) : Sp := fun vs H Q _ => ∃ a C fs, vs = [.ref a, .bl true] ∧ ExV H a C fs ∧ C ∈ Cs ∧ Q (.bl true) H
/-- a list of pairs: an error, v -/
def spErrs (Cs : List Addr) : Sp := fun vs H Q _ => ∃ v, vs = [v] ∧ ∀ (l : Addr) (H' : Hp) (ps : List Addr), Same H H' → H' l = some (.lst (ps.map V.ref)) → ps.length ≤ 10 → (∀ p ∈ ps, ∃ a C fs, H' p = some (.tup [.ref a, v]) ∧ ExV H' a C fs ∧ C ∈ Cs) → Q (.ref l) H'
def spPenB : Sp := fun vs H Q _ => ∃ p c t, vs = [.ref p] ∧ PenOk H p c t ∧ t ≤ 700000000 ∧ ∀ H', PenOk H' p c (t + 300) → But p H H' → Q (.bl true) H'
/-! ### enumerate in a comprehension, the items flat -/
section
variable {K : PySem.W.Frag} {g : TG} {tt : TT} {te : TE} {vs : List Nat} {σ : L2.St} {H : Hp} {Q : VK} {xs : List V} {a : Addr}
theorem lcg_enum (hS : SqL K H a xs) (hz : xs.length < 100000) (R : List V → Prop) (R0 : R []) 
    (hs : ∀ i x H' T, xs[i]? = some x → Same H H' → H' T = none → ∀ (acc : List V), R acc → ∀ (R1 : V → Hp → Prop) (R2 : Hp → Prop), (∀ y H'', Same (upd H' T (.tup [.int (i : Nat), x])) H'' → R (acc ++ [y]) → R1 y H'') →
      g (.ref T) (wipe σ vs) (upd H' T (.tup [.int (i : Nat), x])) fun σ2 H2 => wipe σ2 vs = wipe σ vs ∧ tt σ2 H2 fun b H3 => if b = true then te σ2 H3 R1 else R2 H3)
    (hd : ∀ D acc H', H D = none → Same H H' → H' D = some (.lst acc) → acc.length = xs.length → R acc → Q (.ref D) H') : LcG (Ite K a) g tt te vs σ H Q := by
  intro D hD
  refine ⟨fun i m H' => m = xs.length - i ∧ i ≤ xs.length ∧ ∃ acc, H' D = some (.lst acc) ∧ acc.length = i ∧ R acc ∧ Same H H', ⟨xs.length, by simp, Nat.zero_le _, [], upd_same, rfl, R0, same_new hD⟩, ?_⟩
  rintro i m H' ⟨rfl, hi, acc, h1, h2, h3, h4⟩
  by_cases hlt : i < xs.length
  · refine .inr ⟨⟨xs, xs[i], h4.seq hS, List.getElem?_eq_getElem hlt⟩, fun H'' => ∃ acc, H'' D = some (.lst acc) ∧ acc.length = i + 1 ∧ R acc ∧ Same H H'', fun H'' ⟨acc', p'⟩ => ⟨xs.length - (i + 1), by omega, rfl, hlt, acc', p'⟩, fun x H'' y => ?_⟩
    obtain ⟨T, x', rfl, hT, rfl, hx⟩ := y
    have e2 : Same H' (upd H' T (.tup [.int (i : Nat), x'])) := same_new hT
    have big : 100000 ≤ sizeLine := by decide
    refine hs i x' H' T (hx xs (h4.seq hS)) h4 hT acc h3 _ _ (fun y H'' e3 r => ?_)
    exact ⟨acc, e3 _ _ (e2 _ _ h1), by omega, _, upd_same, by rw [List.length_append, h2]; rfl, r, Same.mut ((h4.trans e2).trans e3) hD⟩
  · have e : i = xs.length := by omega
    subst e
    exact .inl ⟨⟨xs, h4.seq hS, Nat.le_refl _⟩, hd D acc H' hD h4 h1 h2 h3⟩
end
section
variable {X : Cx} {K : PySem.W.Frag}
theorem pi_enumK {e : Expr} {ta : TA} {p pos tpos : Pos} {elts : List Expr} {kk : Nat} (hg : Gl X "enumerate") (hm : X.mg "enumerate" = none) (ha : PA X [e] ta) (hs : starEach [e] X.env = [(false, eval e X.env)] := by rfl) (hK : X.K = K := by rfl) :
    PI X (.Tuple elts kk tpos) (.Call (.Name "enumerate" p) [e] [] pos) (iEnum K ta) := by
  subst hK
  exact pi_enum hg hm ha hs
theorem lc_iE {ta : TA} {g : TG} {tt : TT} {te : TE} {vs : List Nat} {σ : L2.St} {H : Hp} {Q : VK} : tLc (iEnum K ta) g tt te vs σ H Q = ta σ H (fun zs H1 => ∃ a xs, zs = [.ref a] ∧ SqL K H1 a xs ∧ LcG (Ite K a) g tt te vs σ H1 Q) := rfl
end
theorem seqi2 {t u v : TS} {D : Ends} {σ : L2.St} {H : Hp} (h : ∀ k : L2.St → Hp → Prop, k = v D → t { D with nx := u { D with nx := k } } σ H) : tSeq t (tSeq u v) D σ H := h _ rfl
/-! ### the letters of the names -/
def sgS : Str := "abcdefghijklmnopqrstuvw"
theorem sg_at : ∀ i, i < 23 → sgS.cps.toList[i]? = some (97 + i) := by decide +kernel
theorem sg_len : sgS.length = 23 := by decide +kernel
def oneS (n : Nat) : Str := ⟨#[n]⟩
theorem sg_ok : OkS sgS := by decide +kernel
theorem one_ok {n : Nat} (h : n < 1000) : OkS (oneS n) := okS_one (by omega)
theorem one_len (n : Nat) : (oneS n).length = 1 := rfl
theorem one_free : ∀ i, i < 23 → oneS (97 + i) ∉ barS := by decide +kernel
theorem bar_last : barS.all (fun b => decide (b = "x") || !decide (b.cps.toList.getLast? = some 120)) = true := by decide +kernel
theorem bar_noz : barS.all (fun b => !b.cps.toList.contains 122) = true := by decide +kernel
theorem app_x {w : Str} (h : 0 < w.length) : w ++ "x" ∉ barS := fun hm => by
  have h1 := List.all_eq_true.mp bar_last _ hm
  have hl : (w ++ "x").cps.toList.getLast? = some 120 := by
    have e : (w ++ "x").cps.toList = w.cps.toList ++ [120] := by
      show (w.cps ++ ("x" : Str).cps).toList = _
      rw [Array.toList_append]
      rfl
    rw [e, List.getLast?_append]
    rfl
  rw [hl] at h1
  have h2 : w ++ "x" = ("x" : Str) := by simpa using h1
  have h3 := congrArg Str.length h2
  rw [Str.length_append] at h3
  have e1 : ("x" : Str).length = 1 := rfl
  omega
theorem zz_free {w v : Str} : w ++ ("zz" ++ v) ∉ barS := fun hm => by
  have h1 := List.all_eq_true.mp bar_noz _ hm
  have e : (w ++ ("zz" ++ v)).cps.toList = w.cps.toList ++ ([122, 122] ++ v.cps.toList) := by
    show (w.cps ++ (("zz" : Str).cps ++ v.cps)).toList = _
    rw [Array.toList_append, Array.toList_append]
    rfl
  rw [e] at h1
  simp at h1
end Fp

namespace Fp
open PySem PySem.Spec PyProof.Rows L2
local macro_rules | `(tactic| walk_at "rd") => `(tactic| simp only [cxK, cxKn, tRet, tRetN, rIntI, rIntB, rLenL, rListL, rListT, rAbs, tDisp, tPairs, tC, tCB, tCons, tNil, tSl, tVar, tNoPart, tPart, rSlL, tOp, tAsg, gName, tIfS, tDrop, tTest, tAnd, tOr, Evl.tCut, tNot, tB, rI0, rI, rIxL, rIxT, rIxD, tDGet, sDPut, tLst, tTup, tBM, tBM0, tPar, rAppend, rPopAt, rPop, rExtend, rTupL, tCall, tNext, rAll, rOwnIn, rOwn2, rCat, lc_iL, lc_iT, lc_iK, lc_iR, lc_iE, fr_iL, fr_iT, fr_iR, tYes, rIn, rEq, rNe, gTup, gCons, gNil, wipe, tMeth, tFld, sFld, tMake, tProp, tIf, tAndV, tOrV, tNotV, tTru, rIsi, rSum, tRevL, rU, tUn, rIxS, iEnum, if_true, if_false, Bool.false_eq_true, List.map_cons, List.map_nil, List.nil_append, List.append_nil, List.cons_append, List.getElem?_cons_zero, List.getElem?_cons_succ, Option.some.injEq, exists_and_left, exists_eq_left', exists_eq_left, List.cons.injEq, and_true, true_and, V.ref.injEq, V.int.injEq, V.str.injEq, V.bl.injEq, List.set_cons_zero, List.set_cons_succ])
def topS (i : Nat) : Stmt := PySem.Challenge.pw_foldplans_k90_errors.main.body.getD i (.Pass ⟨0, 0, 0, 0⟩)
section
variable {K : PySem.W.Frag} {P : Program} {w : World} {base : Heap} {mg : Str → Option Value} {aR aD C : Addr} {T : Nat → Addr}
abbrev s__law_pen : Stmt := topS 26
theorem sc__law_pen : FnScope ["script"] ["script"] (defScope s__law_pen) := ⟨rfl, rfl, rfl, by decide +kernel, rfl, by decide +kernel, by decide +kernel⟩
theorem ok_pen {f : Addr} {fd : FuncData} (F : Fun K "_law_pen" "_law_pen" s__law_pen f fd) (m_list : mg "list" = none) : FnOk P w K mg base CX0 1 f fd ["script"] (spPen K) := by
  refine F.ok sc__law_pen (fun vs H Q E h => ?_) (fun cdv A outer s H vs Q E hr h => ?_)
  · obtain ⟨a, ns, rfl, _⟩ := h
    rfl
  · obtain ⟨a, ns, rfl, hS, hlen, q⟩ := h
    refine ⟨_, (pss_one (ps_ret (pe_disp (pps_cons pe_str (pe_callTy call_listL (by rfl) m_list (by decide +kernel) (pa_cons (pe_slice sl_list (pv 0) po_none (po_some pe_int)) pa_nil)) (pps_cons pe_str pe_int (pps_cons pe_str pe_int pps_nil))) rfl rfl (by simp) (by decide)))), ?_⟩
    show tRet _ _ [some (.ref a)] H
    walk_at "rd"
    intro p hp
    refine ⟨_, (same_new hp).seq hS, fun c hc => ⟨_, .inl (.inl upd_same), fun l hl => ⟨?_, penK l 0 0, rfl, (show 3 ≤ 15 by decide), ?_⟩⟩⟩
    · have h1 : p ≠ l := ne_of_none (show upd (upd H p (.dK [])) c _ p = some _ by rw [upd_ne (ne_of_none upd_same hc), upd_same]) hl
      rw [upd_ne h1, upd_ne (ne_of_none upd_same hc), upd_same]
    · refine q _ p l hp ?_ ⟨ns.take 63, 0, 0, upd_same, ?_, ?_, by decide, by decide⟩
      · exact Same.mut (Same.new (Same.new (same_new hp) hc) hl) hp
      · have h1 : p ≠ l := ne_of_none (show upd (upd H p (.dK [])) c _ p = some _ by rw [upd_ne (ne_of_none upd_same hc), upd_same]) hl
        rw [upd_ne h1.symm, upd_same, show (63 : Int) = ((63 : Nat) : Int) from rfl, cut_to, List.map_take]
      · rw [List.length_take]; omega
abbrev s__law_draw : Stmt := topS 27
theorem sc__law_draw : FnScope ["pen", "span", "digit", "turn", "cell", "mixed"] ["pen", "span"] (defScope s__law_draw) := ⟨rfl, rfl, rfl, by decide +kernel, rfl, by decide +kernel, by decide +kernel⟩
theorem ok_draw {f : Addr} {fd : FuncData} (F : Fun K "_law_draw" "_law_draw" s__law_draw f fd) (m_int : mg "int" = none) (m_len : mg "len" = none) (m_abs : mg "abs" = none) : FnOk P w K mg base CX0 1 f fd ["pen", "span"] spDraw := by
  refine F.ok sc__law_draw (fun vs H Q E h => ?_) (fun cdv A outer s H vs Q E hr h => ?_)
  · obtain ⟨p, c, span, t, rfl, _⟩ := h
    rfl
  · obtain ⟨p, c, span, t, rfl, hP, ht, hs0, hs1, q⟩ := h
    have hu := hu_of hr
    have hu64 := hr.units
    refine ⟨_, (pss_cons (ps_if (pt_cmpR op_gt (pe_dget hu (pv 0) pe_str (fun _ _ => rfl)) pe_int (nomark _))
      (pss_cons (ps_set (i := 2) sc__law_draw.nd rfl (.inl rfl) (pe_op op_mod (pe_callTy call_intI (by rfl) m_int (by decide +kernel) (pa_cons (pe_dget hu (pv 0) pe_str (fun _ _ => rfl)) pa_nil)) (pv 1)))
        (pss_cons (ps_dput hu (pv 0) pe_str (pe_op op_fdivW (pe_dget hu (pv 0) pe_str (fun _ _ => rfl)) (pv 1)) rfl)
        (pss_one (ps_ret (pv 2)))))
      pss_nil)
    (pss_cons (ps_set (i := 3) sc__law_draw.nd rfl (.inl rfl) (pe_dget hu (pv 0) pe_str (fun _ _ => rfl)))
    (pss_cons (ps_dput hu (pv 0) pe_str (pe_op op_add (pv 3) pe_int) rfl)
    (pss_cons (ps_set (i := 4) sc__law_draw.nd rfl (.inl rfl) (pe_op op_add (pe_op op_mul pe_int (pv 3)) pe_int))
    (Evl.pss_cut (ps_if (pt_cmpR (op_neD hu64) (pe_dget hu (pv 0) pe_str (fun _ _ => rfl)) (pe_lst pa_nil) (nomark _))
      (pss_one (ps_set (i := 4) sc__law_draw.nd rfl (.inl rfl) (pe_ix ix_list (pe_dget hu (pv 0) pe_str (fun _ _ => rfl)) (pe_op op_mod (pe_callTy call_intI (by rfl) m_int (by decide +kernel) (pa_cons (pv 3) pa_nil)) (pe_callB call_lenL (by rfl) m_len PySem.boot_len (pa_cons (pe_dget hu (pv 0) pe_str (fun _ _ => rfl)) pa_nil))) (fun _ _ => rfl))))
      pss_nil)
    (pss_cons (ps_if (PW.pt (pw_and (pt_cmpR op_lt (pv 3) (pe_callB call_lenL (by rfl) m_len PySem.boot_len (pa_cons (pe_dget hu (pv 0) pe_str (fun _ _ => rfl)) pa_nil)) (nomark _)) (pw_and1 (pt_cmpR op_ge (pe_callB call_absI (by rfl) m_abs (by decide +kernel) (pa_cons (pv 4) pa_nil)) (pe_op op_pow pe_int pe_int) (nomark _)))))
      (pss_cons (ps_dput hu (pv 0) pe_str (pe_op op_fdivW (pe_op op_sub (pe_callB call_absI (by rfl) m_abs (by decide +kernel) (pa_cons (pv 4) pa_nil)) (pe_op op_pow pe_int pe_int)) (pv 1)) rfl)
        (pss_one (ps_ret (pe_op op_mod (pe_callTy call_intI (by rfl) m_int (by decide +kernel) (pa_cons (pe_op op_sub (pe_callB call_absI (by rfl) m_abs (by decide +kernel) (pa_cons (pv 4) pa_nil)) (pe_op op_pow pe_int pe_int)) pa_nil)) (pv 1)))))
      pss_nil)
    (pss_cons (ps_set (i := 5) sc__law_draw.nd rfl (.inl rfl) (pe_op op_mul (pe_op op_mod (pe_callTy call_intI (by rfl) m_int (by decide +kernel) (pa_cons (pv 4) pa_nil)) pe_int) pe_int))
    (pss_cons (ps_set (i := 5) sc__law_draw.nd rfl (.inl rfl) (pe_op op_mod (pe_callTy call_intI (by rfl) m_int (by decide +kernel) (pa_cons (pe_op op_add (pe_op op_add (pv 5) (pe_op op_mul (pv 3) (pe_op op_add (pe_op op_mul (pv 3) pe_int) pe_int))) pe_int) pa_nil)) pe_int))
    (pss_cons (ps_set (i := 5) sc__law_draw.nd rfl (.inl rfl) (pe_op op_mod (pe_callTy call_intI (by rfl) m_int (by decide +kernel) (pa_cons (pe_op op_mul (pv 5) (pe_op op_add (pv 5) pe_int)) pa_nil)) pe_int))
    (pss_cons (ps_set (i := 5) sc__law_draw.nd rfl (.inl rfl) (pe_op op_mod (pe_callTy call_intI (by rfl) m_int (by decide +kernel) (pa_cons (pe_op op_add (pe_op op_add (pe_op op_mul (pv 5) (pv 5)) (pe_op op_mul pe_int (pv 5))) (pe_op op_mul pe_int (pv 3))) pa_nil)) pe_int))
    (pss_one (ps_ret (pe_op op_mod (pe_callTy call_intI (by rfl) m_int (by decide +kernel) (pa_cons (pe_op op_fdivW (pe_op op_mod (pe_callTy call_intI (by rfl) m_int (by decide +kernel) (pa_cons (pe_op op_mul (pv 5) (pe_op op_add (pv 5) pe_int)) pa_nil)) pe_int) pe_int) pa_nil)) (pv 1)))))))))))))), ?_⟩
    show tSeq _ _ _ [some (.ref p), some (.int span), none, none, none, none] H
    obtain ⟨cells, turn, left, h1, h2, h3, h4, h5⟩ := hP.ex
    have hmul : ∀ x : Int, 0 ≤ x → x < 4294967296 → ∀ y, CMul x y := fun x h0 h1 y => .inl ⟨by omega, by omega⟩
    refine seqi fun k hk => ?_
    walk_at "rd"
    refine dg_s h1 (pen_left _ _ _) ⟨_, rfl, ite2 (fun hl => ?_) (fun hl => ?_)⟩
    · refine seqi fun k hk => ?_
      walk_at "rd"
      refine dg_s h1 (pen_left _ _ _) ⟨_, rfl, hs0, ?_⟩
      subst hk
      refine seqi fun k hk => ?_
      walk_at "rd"
      refine dg_s h1 (pen_left _ _ _) ⟨_, rfl, ⟨hs0, hs1⟩, ?_⟩
      refine dp_s h1 (pen_len _ _ _) ?_
      rw [pen_putL]
      subst hk
      walk_at "rd"
      refine q _ _ (Int.emod_nonneg _ (by omega)) (Int.emod_lt_of_pos _ hs0) ⟨cells, turn, _, upd_same, ?_, h3, h4, by omega⟩ ⟨fun b o hb n => by rw [upd_ne n]; exact hb, fun _ => by rw [upd_same]; intro z; cases z⟩
      rw [upd_ne (ne_of h2 h1 (by intro z; cases z))]
      exact h2
    · subst hk
      refine seqi fun k hk => ?_
      walk_at "rd"
      refine dg_s h1 (pen_turn _ _ _) ?_
      subst hk
      refine seqi fun k hk => ?_
      walk_at "rd"
      refine dp_s h1 (pen_len _ _ _) ?_
      rw [pen_putT]
      have b1 : But p H (upd H p (.dK (penK c (turn + 1) left))) := ⟨fun b o hb n => by rw [upd_ne n]; exact hb, fun _ => by rw [upd_same]; intro z; cases z⟩
      have h1' : (upd H p (.dK (penK c (turn + 1) left))) p = some (.dK (penK c (turn + 1) left)) := upd_same
      have h2' : (upd H p (.dK (penK c (turn + 1) left))) c = some (.lst (cells.map V.int)) := by
        rw [upd_ne (ne_of h2 h1 (by intro z; cases z))]
        exact h2
      revert h1' h2' b1
      generalize (upd H p (.dK (penK c (turn + 1) left))) = H1
      intro b1 h1' h2'
      subst hk
      refine seqi fun k hk => ?_
      walk_at "rd"
      subst hk
      refine ⟨.inl ⟨by decide, by decide⟩, fun σ' H' => ∃ cell : Int, σ' = [some (.ref p), some (.int span), none, some (.int turn), some (.int cell), none] ∧ Same H1 H', ?_, ?_⟩
      · walk_at "rd"
        refine dg_s h1' (pen_cells _ _ _) ⟨Nat.zero_le _, fun d hd => ?_⟩
        have s2 : Same H1 (upd H1 d (.lst [])) := same_new hd
        have hc : SqL K (upd H1 d (.lst [])) c (cells.map V.int) := .inl (.inl (s2 _ _ h2'))
        refine ne_nil hc (dp_ints _ _ _) (shaped_ints _) upd_same ⟨_, rfl, ite2 (fun hn => ?_) (fun hn => ?_)⟩
        · have h0 : cells ≠ [] := fun z => by
            subst z
            exact absurd hn (by decide)
          obtain ⟨v, hv⟩ := ix_mod (ns := cells) (t := turn) h0
          have hl0 : (0 : Int) < ((cells.map V.int).length : Nat) := by
            rw [List.length_map]
            cases cells with
            | nil => exact absurd rfl h0
            | cons x r => show (0 : Int) < ((r.length + 1 : Nat) : Int); omega
          exact dg_s (s2 _ _ h1') (pen_cells _ _ _) (dg_s (s2 _ _ h1') (pen_cells _ _ _) ⟨_, rfl, _, hc, hl0, _, rfl, _, hc, _, hv, _, rfl, s2⟩)
        · exact s2
      · rintro σ' H2 ⟨cell, rfl, s2⟩
        have h1'' := s2 _ _ h1'
        have h2'' := s2 _ _ h2'
        have b2 : But p H H2 := b1.trans (But.of s2)
        refine seqi fun k hk => ?_
        have go : k [some (V.ref p), some (V.int span), none, some (V.int turn), some (V.int cell), none] H2 := by
          subst hk
          refine seqi fun k hk => ?_
          walk_at "rd"
          refine ⟨by decide, .inr ⟨by decide, by decide⟩, ?_⟩
          subst hk
          refine seqi fun k hk => ?_
          walk_at "rd"
          refine ⟨.inr ⟨by decide, by decide⟩, .inl ⟨by omega, by omega⟩, by decide, ?_⟩
          generalize hm : (_ : Int) % 4294967029 = m
          have m0 : 0 ≤ m := by rw [← hm]; exact Int.emod_nonneg _ (by decide)
          have m1 : m < 4294967296 := by have := Int.emod_lt_of_pos (cell % 4294967087 * 48611 + turn * (turn * 27919 + 10601) + 41) (show (0 : Int) < 4294967029 by decide); omega
          clear hm
          subst hk
          refine seqi fun k hk => ?_
          walk_at "rd"
          refine ⟨hmul _ m0 m1 _, by decide, ?_⟩
          obtain ⟨m2, hm2⟩ : ∃ m2, m * (m + 75013) % 4294966997 = m2 := ⟨_, rfl⟩
          have m3 : 0 ≤ m2 := by rw [← hm2]; exact Int.emod_nonneg _ (by decide)
          have m4 : m2 < 4294967296 := by have := Int.emod_lt_of_pos (m * (m + 75013)) (show (0 : Int) < 4294966997 by decide); omega
          rw [hm2]
          subst hk
          refine seqi fun k hk => ?_
          walk_at "rd"
          refine ⟨hmul _ m3 m4 _, .inl ⟨by decide, by decide⟩, .inl ⟨by decide, by decide⟩, by decide, ?_⟩
          obtain ⟨m5, hm5⟩ : ∃ m5, (m2 * m2 + 30427 * m2 + 19 * turn) % 4294966981 = m5 := ⟨_, rfl⟩
          have m6 : 0 ≤ m5 := by rw [← hm5]; exact Int.emod_nonneg _ (by decide)
          have m7 : m5 < 4294967296 := by have := Int.emod_lt_of_pos (m2 * m2 + 30427 * m2 + 19 * turn) (show (0 : Int) < 4294966981 by decide); omega
          rw [hm5]
          subst hk
          walk_at "rd"
          refine ⟨hmul _ m6 m7 _, by decide, ⟨by decide, by decide⟩, hs0, ?_⟩
          exact q _ _ (Int.emod_nonneg _ (by omega)) (Int.emod_lt_of_pos _ hs0) ⟨cells, turn + 1, left, h1'', h2'', h3, by omega, by omega⟩ b2
        walk_at "rd"
        refine dg_s h1'' (pen_cells _ _ _) ⟨_, rfl, _, .inl (.inl h2''), ite2 (fun ht => ?_) (fun ht => go)⟩
        refine ⟨⟨by decide, by decide, by decide⟩, ite2 (fun hge => ?_) (fun hge => go)⟩
        clear go
        refine seqi fun k2 hk2 => ?_
        walk_at "rd"
        refine ⟨⟨by decide, by decide, by decide⟩, ⟨hs0, hs1⟩, dp_s h1'' (pen_len _ _ _) ?_⟩
        rw [pen_putL]
        subst hk2
        walk_at "rd"
        refine ⟨⟨by decide, by decide, by decide⟩, hs0, ?_⟩
        refine q _ _ (Int.emod_nonneg _ (by omega)) (Int.emod_lt_of_pos _ hs0) ⟨cells, turn + 1, _, upd_same, ?_, h3, by omega, by omega⟩ (b2.trans ⟨fun b o hb n => by rw [upd_ne n]; exact hb, fun _ => by rw [upd_same]; intro z; cases z⟩)
        rw [upd_ne (ne_of h2'' h1'' (by intro z; cases z))]
        exact h2''
abbrev s__law_shuffled : Stmt := topS 29
theorem sc__law_shuffled : FnScope ["pen", "items", "left", "found"] ["pen", "items"] (defScope s__law_shuffled) := ⟨rfl, rfl, rfl, by decide +kernel, rfl, by decide +kernel, by decide +kernel⟩
theorem ok_shuffled {f : Addr} {fd : FuncData} (F : Fun K "_law_shuffled" "_law_shuffled" s__law_shuffled f fd) (D_law_draw : Dn P w K mg base 1 "_law_draw" ["pen", "span"] spDraw) (m_len : mg "len" = none) (m_list : mg "list" = none) : FnOk P w K mg base CX0 2 f fd ["pen", "items"] spShuf := by
  refine F.ok sc__law_shuffled (fun vs H Q E h => ?_) (fun cdv A outer s H vs Q E hr h => ?_)
  · obtain ⟨p, c, v, t, ds, n, rfl, _⟩ := h
    rfl
  · obtain ⟨p, c, v, t, ds, n, rfl, hP, hv, hsh, hn, hl, ht, q⟩ := h
    have hu64 := hr.units
    refine ⟨_, (pss_cons (ps_par (i := 2) (j := 3) rfl sc__law_shuffled.nd rfl rfl (by decide) rfl rfl (pa_cons (pe_callTy (call_listK K) (by rfl) m_list (by decide +kernel) (pa_cons (pv 1) pa_nil)) (pa_cons (pe_lst pa_nil) pa_nil)) rfl)
    (pss_cons (ps_while PassesOwn.never (pt_cmpR (op_neDK K hu64) (pv 2) (pe_lst pa_nil) (nomark _))
      (pss_one (ps_expr (pe_bmK K (by rfl) (pe_bm PySem.F.plainAttrs_list PySem.F.slot_list_append PySem.F.type_list_append mt_append (pv 3) (pa_cons (pe_bmK K (by rfl) (pe_bm PySem.F.plainAttrs_list PySem.F.slot_list_pop PySem.F.type_list_pop mt_popAt (pv 2) (pa_cons (pd D_law_draw (hr.mono (by decide)) (by rfl) (pa_cons (pv 0) (pa_cons (pe_callB (call_lenK K) (by rfl) m_len PySem.boot_len (pa_cons (pv 2) pa_nil)) pa_nil))) pa_nil))) pa_nil))))))
    (pss_one (ps_ret (pv 3))))), ?_⟩
    show tSeq _ _ _ [some (.ref p), some v, none, none] H
    obtain ⟨av, xs, rfl, hav, hxs⟩ := hv.list
    obtain ⟨kvs, hpk⟩ := hP.dict
    refine seqi fun k hk => ?_
    walk_at "rd"
    refine ⟨_, .inl (.inl hav), fun l hl0 => ⟨Nat.zero_le _, fun f1 hf0 => ⟨_, _, ⟨rfl, rfl⟩, ?_⟩⟩⟩
    subst hk
    have hf : H f1 = none := (same_new hl0).free hf0
    have nlf : l ≠ f1 := ne_of_none upd_same hf0
    have npl : l ≠ p := (ne_of_none hpk hl0).symm
    obtain ⟨cxs, hcx⟩ := hP.cells
    have nlc : l ≠ c := (ne_of_none hcx hl0).symm
    have nfc : f1 ≠ c := (ne_of_none hcx hf).symm
    have npf : f1 ≠ p := (ne_of_none hpk hf).symm
    have lx := hxs.len
    refine seqi fun k hk => ?_
    refine ⟨fun m σ H' => ∃ (L F : List V) (dl df : List PyData), σ = [some (.ref p), some (.ref av), some (.ref l), some (.ref f1)] ∧ m = L.length ∧ H' l = some (.lst L) ∧ H' f1 = some (.lst F) ∧ Dts H L dl ∧ Dts H F df ∧ (df ++ dl).Perm ds ∧ PenOk H' p c (t + df.length) ∧ But p H H',
      ⟨xs.length, xs, [], ds, [], rfl, rfl, ?_, ?_, hxs, .nil, List.Perm.refl _, ?_, ?_⟩, ?_⟩
    · rw [upd_ne nlf, upd_same]
    · rw [upd_same]
    · exact hP.same (Same.new (same_new hl0) hf0)
    · exact But.of (Same.new (same_new hl0) hf0)
    · rintro m σ H1 ⟨L, F, dl, df, rfl, rfl, h1, h2, d1, d2, pm, hP1, b1⟩
      have lens : df.length + dl.length = ds.length := by rw [← List.length_append]; exact pm.length_eq
      have ll := d1.len
      walk_at "rd"
      refine ⟨Nat.zero_le _, fun q1 hq1 => ?_⟩
      have hdl : ∀ d ∈ dl, Shp n d := fun d hd => hsh d (pm.mem_iff.mp (List.mem_append_right _ hd))
      have s2 : Same H1 (upd H1 q1 (.lst [])) := same_new hq1
      refine ne_nilD (ds := dl) (.lst (s2 _ _ h1) (((d1.but hpk b1)).same s2)) ((shp_lst hdl).ok (by omega)) upd_same ⟨_, rfl, ?_⟩
      cases dl with
      | nil =>
        have e0 : L = [] := List.length_eq_zero_iff.mp ll
        subst e0
        show k _ _
        subst hk
        walk_at "rd"
        rw [List.append_nil] at pm
        have e2 : df.length = ds.length := pm.length_eq
        rw [e2] at hP1
        exact q f1 _ df pm (hP1.same s2) (b1.trans (But.of s2)) (.lst (s2 _ _ h2) ((d2.but hpk b1).same s2))
      | cons d0 dr =>
        show ∃ N, _
        refine ⟨fun σ2 H2 => ∃ (L' F' : List V) (dl' df' : List PyData), σ2 = [some (.ref p), some (.ref av), some (.ref l), some (.ref f1)] ∧ L'.length + 1 = L.length ∧ H2 l = some (.lst L') ∧ H2 f1 = some (.lst F') ∧
          Dts H L' dl' ∧ Dts H F' df' ∧ (df' ++ dl').Perm ds ∧ PenOk H2 p c (t + df'.length) ∧ But p H H2, ?_, .inl ⟨rfl, _, .inl (.inl (s2 _ _ h2))⟩, .inl ⟨rfl, _, .inl (.inl (s2 _ _ h1))⟩, L, .inl (.inl (s2 _ _ h1)), ?_⟩
        · rintro σ2 H2 ⟨L', F', dl', df', e1, e2, e3, e4, e5, e6, e7, e8, e9⟩
          exact ⟨L'.length, by omega, e1, L', rfl, e3, F', e4, dl', e5, df', e6, e7, e8, e9⟩
        · have lpos : 0 < L.length := by rw [ll]; exact Nat.succ_pos _
          have ls : L.length ≤ 900 := by omega
          refine ⟨p, c, _, t + df.length, rfl, hP1.same s2, by omega, by omega, lg_small (by omega), fun r H2 r0 r1 P2 b2 => ?_⟩
          have h1' : H2 l = some (.lst L) := b2.1 _ _ (s2 _ _ h1) npl
          have h2' : H2 f1 = some (.lst F) := b2.1 _ _ (s2 _ _ h2) npf
          obtain ⟨j, rfl⟩ : ∃ j : Nat, r = j := ⟨r.toNat, by omega⟩
          have hj : j < L.length := by omega
          have hix : seqIndex? (j : Int) L.length = some j := by
            unfold seqIndex?
            have h1 : ¬ ((j : Int) < 0) := by omega
            simp only [if_neg h1]
            rw [if_pos (by simp; omega)]
            rfl
          refine ⟨L, _, rfl, h1', by omega, by omega, j, hix, _, List.getElem?_eq_getElem hj, F, ?_, ?_, ?_⟩
          · rw [upd_ne nlf.symm]
            exact h2'
          · rw [d2.len]
            exact small1000 (by omega)
          · have hdj : j < (d0 :: dr).length := by rw [← ll]; exact hj
            obtain ⟨v', hv', hdv⟩ := d1.get (i := j) (List.getElem?_eq_getElem hdj)
            rw [List.getElem?_eq_getElem hj] at hv'
            cases hv'
            refine ⟨L.eraseIdx j, F ++ [L[j]], (d0 :: dr).eraseIdx j, df ++ [(d0 :: dr)[j]], rfl, ?_, ?_, upd_same, d1.erase j, d2.app (.cons hdv .nil), ?_, ?_, ?_⟩
            · rw [List.length_eraseIdx_of_lt hj]
              omega
            · rw [upd_ne nlf, upd_same]
            · rw [List.append_assoc]
              exact ((perm_erase (d0 :: dr) j _ (List.getElem?_eq_getElem hdj)).append_left df).trans pm
            · rw [List.length_append, List.length_singleton, ← Nat.add_assoc]
              exact (P2.mut npl nlc).mut npf nfc
            · exact ((b1.trans (But.of s2)).trans b2).mut hl0 |>.mut hf
abbrev s__law_pick : Stmt := topS 28
theorem sc__law_pick : FnScope ["pen", "options"] ["pen", "options"] (defScope s__law_pick) := ⟨rfl, rfl, rfl, by decide +kernel, rfl, by decide +kernel, by decide +kernel⟩
theorem ok_pickS {f : Addr} {fd : FuncData} (F : Fun K "_law_pick" "_law_pick" s__law_pick f fd) (D_law_draw : Dn P w K mg base 1 "_law_draw" ["pen", "span"] spDraw) (m_len : mg "len" = none) : FnOk P w K mg base CX0 2 f fd ["pen", "options"] spPickS := by
  refine F.ok sc__law_pick (fun vs H Q E h => ?_) (fun cdv A outer s H vs Q E hr h => ?_)
  · obtain ⟨p, c, z, t, rfl, _⟩ := h
    rfl
  · obtain ⟨p, c, z, t, rfl, hP, ht, h0, hz, ok, q⟩ := h
    refine ⟨_, (pss_one (ps_ret (pe_ix ix_str (pv 1) (pd D_law_draw (hr.mono (by decide)) (by rfl) (pa_cons (pv 0) (pa_cons (pe_callB call_len_str (by rfl) m_len PySem.boot_len (pa_cons (pv 1) pa_nil)) pa_nil))) (fun _ _ => rfl)))), ?_⟩
    show tRet _ _ [some (.ref p), some (.str z)] H
    walk_at "rd"
    have big : 900 ≤ sizeLine := by decide
    refine ⟨by omega, p, c, _, t, rfl, hP, by omega, by omega, lg_small (by omega), fun r H2 r0 r1 P2 b2 => ?_⟩
    obtain ⟨j, rfl⟩ : ∃ j : Nat, r = j := ⟨r.toNat, by omega⟩
    have hl : z.cps.toList.length = z.length := by rw [Array.length_toList]; rfl
    have hj : j < z.cps.toList.length := by omega
    exact ⟨j, rfl, by omega, _, atI_nat (j := j) (List.getElem?_eq_getElem hj), q _ _ (okS_at ok (List.getElem?_eq_getElem hj)) P2 b2⟩
abbrev s__law_barred : Stmt := topS 30
theorem sc__law_barred : FnScope [] [] (defScope s__law_barred) := ⟨rfl, rfl, rfl, by decide +kernel, rfl, by decide +kernel, by decide +kernel⟩
theorem ok_barred {f : Addr} {fd : FuncData} (F : Fun K "_law_barred" "_law_barred" s__law_barred f fd) : FnOk P w K mg base CX0 1 f fd [] spBar := by
  refine F.ok sc__law_barred (fun vs H Q E h => ?_) (fun cdv A outer s H vs Q E hr h => ?_)
  · obtain ⟨rfl, _⟩ := h
    rfl
  · obtain ⟨rfl, q⟩ := h
    refine ⟨_, (pss_one (ps_ret (pe_lst (pa_cons pe_str (pa_cons pe_str (pa_cons pe_str (pa_cons pe_str (pa_cons pe_str (pa_cons pe_str (pa_cons pe_str (pa_cons pe_str pa_nil))))))))))), ?_⟩
    show tRet _ _ [] H
    walk_at "rd"
    exact ⟨by show 8 ≤ sizeLine; decide, fun l hl => q _ _ hl (same_new hl) upd_same⟩
end
end Fp

namespace Fp
open PySem PySem.Spec PyProof.Rows L2
local macro_rules | `(tactic| walk_at "rd") => `(tactic| simp only [cxK, cxKn, tRet, tRetN, rIntI, rIntB, rLenL, rListL, rListT, rAbs, tDisp, tPairs, tC, tCB, tCons, tNil, tSl, tVar, tNoPart, tPart, rSlL, tOp, tAsg, gName, tIfS, tDrop, tTest, tAnd, tOr, Evl.tCut, tNot, tB, rI0, rI, rIxL, rIxT, rIxD, tDGet, sDPut, tLst, tTup, tBM, tBM0, tPar, rAppend, rPopAt, rPop, rExtend, rTupL, tCall, tNext, rAll, rOwnIn, rOwn2, rCat, lc_iL, lc_iT, lc_iK, lc_iR, lc_iE, fr_iL, fr_iT, fr_iR, tYes, rIn, rEq, rNe, gTup, gCons, gNil, wipe, tMeth, tFld, sFld, tMake, tProp, tIf, tAndV, tOrV, tNotV, tTru, rIsi, rSum, tRevL, rU, tUn, rIxS, iEnum, if_true, if_false, Bool.false_eq_true, List.map_cons, List.map_nil, List.nil_append, List.append_nil, List.cons_append, List.getElem?_cons_zero, List.getElem?_cons_succ, Option.some.injEq, exists_and_left, exists_eq_left', exists_eq_left, List.cons.injEq, and_true, true_and, V.ref.injEq, V.int.injEq, V.str.injEq, V.bl.injEq, List.set_cons_zero, List.set_cons_succ])
section
variable {K : PySem.W.Frag} {P : Program} {w : World} {base : Heap} {mg : Str → Option Value} {aR aD C : Addr}
abbrev s__law_names : Stmt := topS 31
theorem sc__law_names : FnScope ["pen", "many", "signs", "stem", "way", "front", "k", "found", "short", "one", "tails", "at"] ["pen", "many"] (defScope s__law_names) := ⟨rfl, rfl, rfl, by decide +kernel, rfl, by decide +kernel, by decide +kernel⟩
theorem ok_names {f : Addr} {fd : FuncData} (F : Fun K "_law_names" "_law_names" s__law_names f fd) (D_law_draw : Dn P w K mg base 1 "_law_draw" ["pen", "span"] spDraw) (D_law_pick : Dn P w K mg base 2 "_law_pick" ["pen", "options"] spPickS)
    (D_law_barred : Dn P w K mg base 1 "_law_barred" [] spBar) (D_law_shuffled : Dn P w K mg base 2 "_law_shuffled" ["pen", "items"] spShuf) (m_int : mg "int" = none) (m_range : mg "range" = none) (m_enumerate : mg "enumerate" = none) : FnOk P w K mg base CX0 3 f fd ["pen", "many"] spNames := by
  refine F.ok sc__law_names (fun vs H Q E h => ?_) (fun cdv A outer s H vs Q E hr h => ?_)
  · obtain ⟨p, c, m, t, rfl, _⟩ := h
    rfl
  · obtain ⟨p, c, m, t, rfl, hP, ht, hm, q⟩ := h
    refine ⟨_, (pss_cons (ps_asg (pe_tup (pa_cons pe_str (pa_cons pe_str pa_nil))) (pg_tupK K (pg_tup (n := 2) rfl (pgs_cons (pg_name (i := 2) sc__law_names.nd rfl (.inr rfl)) (pgs_cons (pg_name (i := 3) sc__law_names.nd rfl (.inr rfl)) pgs_nil)))))
    (pss_cons (ps_asg (pe_tup (pa_cons (pd D_law_draw (hr.mono (by decide)) (by rfl) (pa_cons (pv 0) (pa_cons pe_int pa_nil))) (pa_cons (pd D_law_draw (hr.mono (by decide)) (by rfl) (pa_cons (pv 0) (pa_cons pe_int pa_nil))) pa_nil))) (pg_tupK K (pg_tup (n := 2) rfl (pgs_cons (pg_name (i := 4) sc__law_names.nd rfl (.inl rfl)) (pgs_cons (pg_name (i := 5) sc__law_names.nd rfl (.inr rfl)) pgs_nil)))))
    (pss_cons (ps_for PassesOwn.never rfl (pi_range1 rfl m_range (pa_cons (pe_op op_mul (pd D_law_draw (hr.mono (by decide)) (by rfl) (pa_cons (pv 0) (pa_cons pe_int pa_nil))) (pe_callTy call_intB (by rfl) m_int (by decide +kernel) (pa_cons (pe_cmpR op_gt (pv 4) pe_int (nomark _)) pa_nil))) pa_nil)) (pg_name (i := 6) sc__law_names.nd rfl (.inl rfl))
      (pss_one (ps_set (i := 3) sc__law_names.nd rfl (.inr rfl) (pe_op op_add_str (pv 3) (pd D_law_pick (hr.mono (by decide)) (by rfl) (pa_cons (pv 0) (pa_cons (pv 2) pa_nil)))))))
    (pss_cons (ps_setLc (i := 7) (own := [("k", 6)]) rfl sc__law_names.nd rfl rfl (sw_true rfl rfl rfl (by decide +kernel)) (pi_range1 rfl m_range (pa_cons pe_int pa_nil)) (blkOk_by (by kernel_rfl)) (fun _ _ _ _ _ => (pg_name (i := 6) sc__law_names.nd rfl (.inl rfl))) (fun _ _ _ _ _ => pts_nil) (fun _ _ _ _ _ => (pe_ix ix_str (pv 2) (pe_op op_mod (pe_callTy call_intI (by rfl) m_int (by decide +kernel) (pa_cons (pe_op op_add (pv 5) (pe_op op_mul pe_int (pv 6))) pa_nil)) pe_int) (fun _ _ => rfl))))
    (pss_cons (ps_if (pt_cmpR op_eq (pv 4) pe_int (nomark _))
      (pss_cons (ps_par (i := 8) (j := 7) rfl sc__law_names.nd rfl rfl (by decide) rfl rfl (pa_cons (pv 7) (pa_cons (pe_lst pa_nil) pa_nil)) rfl)
        (pss_one (ps_for PassesOwn.never rfl (pi_listK K (pv 8)) (pg_name (i := 9) sc__law_names.nd rfl (.inl rfl))
      (pss_one (ps_expr (pe_bmK K (by rfl) (pe_bm PySem.F.plainAttrs_list PySem.F.slot_list_extend PySem.F.type_list_extend mt_extend (pv 7) (pa_cons (pe_lst (pa_cons (pe_op op_add_str (pv 3) (pv 9)) (pa_cons (pe_op op_add_str (pe_op op_add_str (pv 3) (pv 9)) pe_str) pa_nil))) pa_nil))))))))
      pss_nil)
    (pss_cons (ps_if (pt_cmpR op_eq (pv 4) pe_int (nomark _))
      (pss_cons (ps_setLc (i := 10) (own := [("one", 9)]) rfl sc__law_names.nd rfl rfl (sw_true rfl rfl rfl (by decide +kernel)) (pi_listK K (pv 7)) (blkOk_by (by kernel_rfl)) (fun _ _ _ _ _ => (pg_name (i := 9) sc__law_names.nd rfl (.inl rfl))) (fun _ _ _ _ _ => pts_nil) (fun _ _ _ _ _ => (pe_op op_add_str pe_str (pv 9))))
        (pss_one (ps_setLc (i := 7) (own := [("one", 9)]) rfl sc__law_names.nd rfl rfl (sw_true rfl rfl rfl (by decide +kernel)) (pi_listK K (pe_op op_cat (pe_lc (own := [("at", 11), ("one", 9)]) rfl sc__law_names.nd (pi_enumK (K := K) rfl m_enumerate (pa_cons (pv 7) pa_nil)) (blkOk_by (by kernel_rfl)) (fun _ _ _ _ _ => (pg_tupK K (pg_tup (n := 2) rfl (pgs_cons (pg_name (i := 11) sc__law_names.nd rfl (.inl rfl)) (pgs_cons (pg_name (i := 9) sc__law_names.nd rfl (.inl rfl)) pgs_nil))))) (fun _ _ _ _ _ => pts_nil) (fun _ _ _ _ _ => (pe_op op_add_str (pv 9) (pe_op op_mulS pe_str (pe_op op_mod (pe_callTy call_intI (by rfl) m_int (by decide +kernel) (pa_cons (pv 11) pa_nil)) pe_int))))) (pv 10))) (blkOk_by (by kernel_rfl)) (fun _ _ _ _ _ => (pg_name (i := 9) sc__law_names.nd rfl (.inl rfl))) (fun _ _ _ _ _ => pts_nil) (fun _ _ _ _ _ => (pe_op op_add_str (pv 3) (pv 9))))))
      pss_nil)
    (pss_cons (ps_set (i := 7) sc__law_names.nd rfl (.inl rfl) (pe_slice (sl_listK K) (pe_lc (own := [("one", 9)]) rfl sc__law_names.nd (pi_listK K (pv 7)) (blkOk_by (by kernel_rfl)) (fun _ _ _ _ _ => (pg_name (i := 9) sc__law_names.nd rfl (.inl rfl))) (fun _ _ _ _ _ => pts_one (pt_cmpR (op_notInK K) (pv 9) (pd0 D_law_barred (hr.mono (by decide)) (by rfl)) rfl)) (fun _ _ _ _ _ => (pv 9))) po_none (po_some (pv 1))))
    (pss_one (ps_ret (pd D_law_shuffled (hr.mono (by decide)) (by rfl) (pa_cons (pv 0) (pa_cons (pv 7) pa_nil)))))))))))), ?_⟩
    show tSeq _ _ _ [some (.ref p), some (.int m), none, none, none, none, none, none, none, none, none, none] H
    refine seqi fun k hk => ?_
    walk_at "rd"
    refine ⟨by show 2 ≤ sizeLine; decide, fun tp htp => ?_⟩
    have e1 : Same H (upd H tp (.tup [.str "abcdefghijklmnopqrstuvw", .str ""])) := same_new htp
    refine ⟨_, .inl (.inl upd_same), rfl, _, _, rfl, _, _, rfl, rfl, ?_⟩
    have P1 := hP.same e1
    have b1 : But p H (upd H tp (.tup [.str "abcdefghijklmnopqrstuvw", .str ""])) := But.of e1
    generalize upd H tp (.tup [.str "abcdefghijklmnopqrstuvw", .str ""]) = H1 at P1 b1
    subst hk
    refine seqi fun k hk => ?_
    walk_at "rd"
    refine ⟨p, c, 3, t, rfl, P1, by omega, by decide, by decide, fun way H2 w0 w1 P2 b2 => ?_⟩
    refine ⟨p, c, 23, t + 1, rfl, P2, by omega, by decide, by decide, fun fr H3 f0 f1 P3 b3 => ?_⟩
    refine ⟨by show 2 ≤ sizeLine; decide, fun tp2 htp2 => ?_⟩
    have e4 : Same H3 (upd H3 tp2 (.tup [.int way, .int fr])) := same_new htp2
    refine ⟨_, .inl (.inl upd_same), rfl, _, _, rfl, _, _, rfl, rfl, ?_⟩
    have P4 := P3.same e4
    have b4 := ((b1.trans b2).trans b3).trans (But.of e4)
    generalize upd H3 tp2 (.tup [.int way, .int fr]) = H4 at P4 b4
    clear e1 e4 b1 b2 b3 P1 P2 P3 htp htp2
    obtain ⟨kvs4, hp4⟩ := P4.dict
    subst hk
    refine seqi fun k hk => ?_
    walk_at "rd"
    refine ⟨p, c, 8, _, rfl, P4, by omega, by decide, by decide, fun r H5 r0 r1 P5 b5 => ?_⟩
    obtain ⟨cnt, hc, hc7⟩ : ∃ cnt : Nat, (r * if decide (0 < way) = true then 1 else 0) = (cnt : Int) ∧ cnt ≤ 7 := by
      by_cases hw : 0 < way
      · rw [if_pos (by simpa using hw)]
        exact ⟨r.toNat, by omega, by omega⟩
      · rw [if_neg (by simpa using hw)]
        exact ⟨0, by omega, by omega⟩
    have cm : CMul r (if decide (0 < way) = true then 1 else 0) := .inl ⟨by omega, by omega⟩
    refine ⟨r, rfl, cm, ?_⟩
    rw [hc]
    refine ⟨by omega, by omega, ?_⟩
    rw [show ((cnt : Int)).toNat = cnt from rfl]
    have b5 := b4.trans b5
    refine forg_by (jseq_rng 0 cnt) (fun i σ' H' => ∃ (z : Str) (y : Option V), σ' = [some (.ref p), some (.int m), some (.str sgS), some (.str z), some (.int way), some (.int fr), y, none, none, none, none, none] ∧ z.length ≤ i ∧ OkS z ∧ PenOk H' p c (t + 3 + i) ∧ But p H H')
      ⟨_, none, rfl, Nat.le_refl _, (by decide +kernel), P5, b5⟩ (fun i σ' H' _ h => trivial) (fun i x σ' H6 hx h => ?_) (fun σ' H6 h => ?_)
    · obtain ⟨z, y, rfl, hz, zok, P6, b6⟩ := h
      have hi : i < cnt := by
        have := (List.getElem?_eq_some_iff.mp hx).1
        rw [rngV_len] at this
        exact this
      walk_at "rd"
      refine ⟨p, c, sgS, _, rfl, P6, by omega, by decide, by decide, sg_ok, fun ch H7 cok P7 b7 => ?_⟩
      have big : 100 ≤ sizeLine := by decide
      have l1 : Str.length ⟨#[ch]⟩ = 1 := rfl
      refine ⟨_, rfl, by omega, _, _, ⟨rfl, rfl⟩, ?_, okS_app zok cok, P7, b6.trans b7⟩
      rw [Str.length_append]
      omega
    obtain ⟨z, y6, rfl, hz, zok, P6, b6⟩ := h
    rw [rngV_len] at hz P6
    have hz7 : z.length ≤ 7 := by omega
    have P6 := P6.mono (show t + 3 + cnt ≤ t + 10 by omega)
    clear P5 b5 b4 P4 hp4 hz
    subst hk
    dsimp only
    refine seqi fun k hk => ?_
    walk_at "rd"
    refine ⟨by decide, by decide, ?_⟩
    rw [show Int.toNat 23 = 23 from rfl]
    refine lcg_pure (jseq_rng 0 23) trivial (by decide) (fun _ => true) (fun x => match x with | .int k => .str (oneS (97 + ((fr + 5 * k) % 23).toNat)) | _ => .non) (fun x hx H7 e7 R1 R0 r1 r0 => ?_) (fun D7 H7 hD7 e7 h7 => ?_)
    · obtain ⟨j, hj, rfl⟩ : ∃ j : Nat, j < 23 ∧ x = .int j := by
        obtain ⟨j, hj⟩ := List.getElem?_of_mem hx
        have hl := (List.getElem?_eq_some_iff.mp hj).1
        rw [rngV_len] at hl
        rw [rngV_at hl] at hj
        cases hj
        exact ⟨j, hl, by rw [Int.zero_add]⟩
      walk_at "rd"
      have a0 : (fr + 5 * (j : Int)) % 23 = (((fr + 5 * (j : Int)) % 23).toNat : Nat) := by omega
      refine ⟨.inl ⟨by decide, by decide⟩, by decide, by decide, _, ?_, r1 rfl _ (Same.refl _)⟩
      rw [a0]
      exact atI_nat (sg_at _ (by omega))
    obtain ⟨zs0, hz0, hl0, hs0⟩ : ∃ zs : List Str, zs.map V.str = ((rngV 0 23).filter (fun _ => true)).map (fun x => match x with | .int k => .str (oneS (97 + ((fr + 5 * k) % 23).toNat)) | _ => .non) ∧ zs.length = 23 ∧ ∀ z ∈ zs, ∃ i, i < 23 ∧ z = oneS (97 + i) := by
      refine ⟨(List.range 23).map fun (k : Nat) => oneS (97 + ((fr + 5 * (k : Int)) % 23).toNat), ?_, by rw [List.length_map, List.length_range], fun z hz => ?_⟩
      · rw [List.filter_eq_self.mpr fun _ _ => rfl]
        unfold rngV
        rw [List.map_map, List.map_map]
        refine List.map_congr_left fun i _ => ?_
        show V.str _ = V.str _
        rw [Int.zero_add]
      · obtain ⟨k, _, rfl⟩ := List.mem_map.mp hz
        exact ⟨_, by omega, rfl⟩
    rw [← hz0] at h7
    have P7 := P6.same e7
    have b7 := b6.trans (.of e7)
    clear hz0 P6 b6 e7 hD7
    subst hk
    refine seqi2 fun k hk => ?_
    have fin : ∀ (z0 y6 y8 y9 y10 y11 : Option V) (a : Addr) (zs : List Str) (H8 : Hp), H8 a = some (.lst (zs.map V.str)) → zs.length ≤ 100 → (∀ z ∈ zs, z.length ≤ 300) → (∀ z ∈ zs, OkS z) → (∃ z ∈ zs, z ∉ barS) → PenOk H8 p c (t + 10) → But p H H8 →
        k [some (.ref p), some (.int m), some (.str sgS), z0, some (.int way), some (.int fr), y6, some (.ref a), y8, y9, y10, y11] H8 := by
      intro z0 y6 y8 y9 y10 y11 a zs H8 ha hl hn hok hx P8 b8
      rw [hk]
      clear hk
      refine seqi fun k hk => ?_
      walk_at "rd"
      refine ⟨⟨_, .inl (.inl ha)⟩, ?_⟩
      refine lcg_pure (jseq_list K a (zs.map V.str)) (.inl (.inl ha)) (by rw [List.length_map]; omega) (fun x => !inV x (barS.map V.str)) (fun x => x) (fun x hx H9 e9 R1 R0 r1 r0 => ?_) (fun D9 H9 hD9 e9 h9 => ?_)
      · obtain ⟨w, _, rfl⟩ := List.mem_map.mp hx
        walk_at "rd"
        refine ⟨rfl, fun l H10 hl e10 hl10 => ?_⟩
        refine ⟨l, rfl, _, .inl (.inl (.inl hl10)), rfl, by decide +kernel, ?_⟩
        by_cases hb : (!inV (.str w) (barS.map V.str)) = true
        · rw [if_pos hb]
          exact r1 hb _ e10
        · rw [if_neg hb]
          exact r0 (by simpa using hb) _ e10
      have hfm : ∃ ys : List Str, ((zs.map V.str).filter (fun x => !inV x (barS.map V.str))).map (fun x => x) = ys.map V.str ∧ ys = zs.filter fun w => !decide (w ∈ barS) := by
        refine ⟨_, ?_, rfl⟩
        rw [List.map_id', List.filter_map]
        congr 1
        refine List.filter_congr fun w _ => ?_
        show (!inV (.str w) (barS.map V.str)) = _
        rw [inV_strs]
      obtain ⟨ys, hy, hys⟩ := hfm
      rw [hy] at h9
      have ysub : ∀ w ∈ ys, w.length ≤ 300 := fun w hw => hn w (by rw [hys] at hw; exact (List.mem_filter.mp hw).1)
      have yok : ∀ w ∈ ys, OkS w := fun w hw => hok w (by rw [hys] at hw; exact (List.mem_filter.mp hw).1)
      have ylen : ys.length ≤ 100 := by rw [hys]; exact Nat.le_trans (List.length_filter_le _ _) hl
      have yne : ys ≠ [] := by
        obtain ⟨w, hw, hb⟩ := hx
        have : w ∈ ys := by
          rw [hys]
          exact List.mem_filter.mpr ⟨hw, by rw [decide_eq_false hb]; rfl⟩
        exact List.ne_nil_of_mem this
      have P9 := P8.same e9
      have b9 := b8.trans (.of e9)
      refine ⟨_, rfl, _, .inl (.inl h9), fun a1 n1 => ?_⟩
      rw [cut_to, ← List.map_take]
      have e1 : Same H9 (upd H9 a1 (.lst ((ys.take m).map V.str))) := same_new n1
      have g1 : (upd H9 a1 (.lst ((ys.take m).map V.str))) a1 = some (.lst ((ys.take m).map V.str)) := upd_same
      have P10 := P9.same e1
      have b10 := b9.trans (.of e1)
      generalize upd H9 a1 (.lst ((ys.take m).map V.str)) = H10 at e1 g1 P10 b10
      subst hk
      walk_at "rd"
      have tlen : (ys.take m).length ≤ 100 := by rw [List.length_take]; omega
      refine ⟨p, c, .ref a1, _, (ys.take m).map PyData.str, 0, rfl, P10, .lst g1 (dts_strs _), fun d hd => ?_, Nat.zero_le _, by rw [List.length_map]; omega, by omega, fun a2 H11 es pm P11 b11 d11 => ?_⟩
      · obtain ⟨w, hw, rfl⟩ := List.mem_map.mp hd
        exact ⟨yok w (List.mem_of_mem_take hw), Nat.le_refl _⟩
      obtain ⟨us, pmu, hus⟩ := perm_map_inv pm _ rfl
      subst hus
      rw [List.length_map] at P11
      refine q a2 H11 us (fun hm0 hu => ?_) (by rw [pmu.length_eq]; exact tlen) (fun w hw => ysub w (List.mem_of_mem_take (pmu.mem_iff.mp hw))) (fun w hw => yok w (List.mem_of_mem_take (pmu.mem_iff.mp hw))) d11 (P11.mono (by omega)) (b10.trans b11)
      subst hu
      have := pmu.length_eq
      rw [List.length_take] at this
      have : 0 < ys.length := List.length_pos_iff.mpr yne
      have : ([] : List Str).length = 0 := rfl
      omega
    clear hk
    have hs1 : ∀ w ∈ zs0, w.length = 1 ∧ OkS w ∧ w ∉ barS := fun w hw => by
      obtain ⟨i, hi, rfl⟩ := hs0 w hw
      exact ⟨rfl, one_ok (by omega), one_free i hi⟩
    have hex : ∃ w, w ∈ zs0 := List.exists_mem_of_length_pos (by omega)
    clear hs0 hc cm r0 r1 hc7 f0 f1
    obtain hw | hw | hw : way = 0 ∨ way = 1 ∨ way = 2 := by omega
    · have d1 : decide (way = 1) = false := decide_eq_false (by omega)
      have d2 : decide (way = 2) = false := decide_eq_false (by omega)
      walk_at "rd"
      rw [d1, d2]
      obtain ⟨w, hw⟩ := hex
      refine ⟨rfl, iteF ⟨rfl, iteF (fin _ _ _ _ _ _ _ zs0 _ h7 (by omega) (fun w hw => ?_) (fun w hw => (hs1 w hw).2.1) ⟨w, hw, (hs1 w hw).2.2⟩ P7 b7)⟩⟩
      rw [(hs1 w hw).1]
      decide
    · have d1 : decide (way = 1) = true := decide_eq_true hw
      have d2 : decide (way = 2) = false := decide_eq_false (by omega)
      walk_at "rd"
      rw [d1, d2]
      refine ⟨rfl, iteT ?_⟩
      refine seqi fun k1 hk1 => ?_
      walk_at "rd"
      refine ⟨Nat.zero_le _, fun f1 hf1 => ⟨_, _, ⟨rfl, rfl⟩, ?_⟩⟩
      have e0 : Same H7 (upd H7 f1 (.lst [])) := same_new hf1
      have nf : D7 ≠ f1 := ne_of_none h7 hf1
      have hfH : H f1 = none := b7.free hf1
      have P8 := P7.same e0
      have b8 := b7.trans (.of e0)
      have h8 := e0 _ _ h7
      have g8 : (upd H7 f1 (.lst [])) f1 = some (.lst []) := upd_same
      generalize upd H7 f1 (.lst []) = H8 at e0 P8 b8 h8 g8
      subst hk1
      walk_at "rd"
      refine ⟨⟨_, .inl (.inl h8)⟩, ?_⟩
      refine forg_by (jseq_list K D7 (zs0.map V.str)) (fun i σ' H' => ∃ (zs : List Str) (y : Option V), σ' = [some (.ref p), some (.int m), some (.str sgS), some (.str z), some (.int way), some (.int fr), y6, some (.ref f1), some (.ref D7), y, none, none] ∧ H' D7 = some (.lst (zs0.map V.str)) ∧ H' f1 = some (.lst (zs.map V.str)) ∧
          zs.length = 2 * i ∧ (∀ w ∈ zs, w.length ≤ 300) ∧ (∀ w ∈ zs, OkS w) ∧ (0 < i → ∃ w ∈ zs, w ∉ barS) ∧ PenOk H' p c (t + 10) ∧ But p H H')
        ⟨[], none, rfl, h8, g8, rfl, fun w hw => absurd hw List.not_mem_nil, fun w hw => absurd hw List.not_mem_nil, fun h => absurd h (by decide), P8, b8⟩ (fun i σ' H' _ h => ?_) (fun i x σ' H9 hx h => ?_) (fun σ' H9 h => ?_)
      · obtain ⟨_, _, _, h, _⟩ := h
        exact .inl (.inl h)
      · obtain ⟨zs, y, rfl, h9, g9, lz, zl, zo, _, P9, b9⟩ := h
        obtain ⟨w, hw, rfl⟩ : ∃ w, w ∈ zs0 ∧ x = .str w := by
          obtain ⟨w, hw, rfl⟩ := List.mem_map.mp (List.mem_of_getElem? hx)
          exact ⟨w, hw, rfl⟩
        obtain ⟨w1, w2, w3⟩ := hs1 w hw
        have hi : i < 23 := by
          have := (List.getElem?_eq_some_iff.mp hx).1
          rw [List.length_map] at this
          omega
        have big : 1000 ≤ sizeLine := by decide
        have xl : ("x" : Str).length = 1 := rfl
        have al : (z ++ w).length = z.length + w.length := Str.length_append _ _
        walk_at "rd"
        refine ⟨.inl ⟨rfl, _, .inl (.inl g9)⟩, by omega, by omega, by omega, Nat.le_trans (show 2 ≤ 1000 by decide) big, fun l hl => ?_⟩
        have nlf : f1 ≠ l := ne_of_none g9 hl
        have e9 : Same H9 (upd H9 l (.lst [V.str (z ++ w), V.str (z ++ w ++ "x")])) := same_new hl
        obtain ⟨cxs, hcx⟩ := P9.cells
        obtain ⟨kvs9, hpx⟩ := P9.dict
        have nfc : f1 ≠ c := fun e => by
          have h := b7.2
          obtain ⟨cx7, hc7⟩ := P7.cells
          rw [← e, hf1] at hc7
          cases hc7
        have nfp : f1 ≠ p := fun e => by
          obtain ⟨kx7, hp7⟩ := P7.dict
          rw [← e, hf1] at hp7
          cases hp7
        have nfD : f1 ≠ D7 := nf.symm
        refine ⟨_, e9 _ _ g9, _, upd_same, by rw [List.length_map]; show zs.length + 2 ≤ _; omega, ?_, zs ++ [z ++ w, z ++ w ++ "x"], ?_, ?_, ?_, ?_, fun _ => ⟨z ++ w ++ "x", List.mem_append_right _ (List.mem_cons_of_mem _ List.mem_cons_self), app_x (by omega)⟩, (P9.same e9).mut nfp nfc, (b9.trans (.of e9)).mut hfH⟩
        · rw [upd_ne nf]
          exact e9 _ _ h9
        · rw [upd_same, List.map_append]
          rfl
        · rw [List.length_append, lz]
          show 2 * i + 2 = _
          omega
        · intro v hv
          rcases List.mem_append.mp hv with hv | hv
          · exact zl v hv
          · have : v = z ++ w ∨ v = z ++ w ++ "x" := by simpa using hv
            rcases this with rfl | rfl
            · omega
            · rw [Str.length_append]
              omega
        · intro v hv
          rcases List.mem_append.mp hv with hv | hv
          · exact zo v hv
          · have : v = z ++ w ∨ v = z ++ w ++ "x" := by simpa using hv
            rcases this with rfl | rfl
            · exact okS_app zok w2
            · exact okS_app (okS_app zok w2) (by decide +kernel)
      · obtain ⟨zs, y, rfl, h9, g9, lz, zl, zo, ze, P9, b9⟩ := h
        rw [List.length_map, hl0] at lz ze
        have ze := ze (by decide)
        walk_at "rd"
        rw [d2]
        exact ⟨rfl, iteF (fin _ _ _ _ _ _ _ zs _ g9 (by omega) zl zo ze P9 b9)⟩
    · have d1 : decide (way = 1) = false := decide_eq_false (by omega)
      have d2 : decide (way = 2) = true := decide_eq_true hw
      walk_at "rd"
      rw [d1, d2]
      refine ⟨rfl, iteF ⟨rfl, iteT ?_⟩⟩
      refine seqi fun k1 hk1 => ?_
      walk_at "rd"
      refine ⟨⟨_, .inl (.inl h7)⟩, ?_⟩
      have big : 1000 ≤ sizeLine := by decide
      have zl : ("zz" : Str).length = 2 := rfl
      refine lcg_pure (jseq_list K D7 (zs0.map V.str)) (.inl (.inl h7)) (by rw [List.length_map]; omega) (fun _ => true) (fun x => match x with | .str k => .str ("zz" ++ k) | _ => .non) (fun x hx H8 e8 R1 R0 r1 r0 => ?_) (fun D8 H8 hD8 e8 h8 => ?_)
      · obtain ⟨w, hw, rfl⟩ := List.mem_map.mp hx
        obtain ⟨w1, w2, w3⟩ := hs1 w hw
        walk_at "rd"
        exact ⟨by omega, r1 rfl _ (Same.refl _)⟩
      have h8 : H8 D8 = some (.lst ((zs0.map fun k => ("zz" : Str) ++ k).map V.str)) := by
        rw [h8, List.filter_eq_self.mpr fun _ _ => rfl, List.map_map, List.map_map]
        rfl
      have g8 := e8 _ _ h7
      have P8 := P7.same e8
      have b8 := b7.trans (.of e8)
      subst hk1
      walk_at "rd"
      refine ⟨_, .inl (.inl g8), ?_⟩
      refine lcg_enum (.inl (.inl g8)) (by rw [List.length_map]; omega) (fun acc => ∃ zs : List Str, acc = zs.map V.str ∧ (∀ w ∈ zs, w.length ≤ 201) ∧ ∀ w ∈ zs, OkS w) ⟨[], rfl, fun w hw => absurd hw List.not_mem_nil, fun w hw => absurd hw List.not_mem_nil⟩ (fun i x H9 T hx e9 hT acc hacc R1 R2 r1 => ?_) (fun D9 acc H9 hD9 e9 h9 la hacc => ?_)
      · obtain ⟨zs, rfl, q1, q2⟩ := hacc
        obtain ⟨w, hw, rfl⟩ := List.mem_map.mp (List.mem_of_getElem? hx)
        obtain ⟨w1, w2, w3⟩ := hs1 w hw
        walk_at "rd"
        refine ⟨_, .inl (.inl upd_same), rfl, _, _, rfl, _, _, rfl, rfl, _, rfl, by decide, "w", _, rfl, rfl, by omega, by omega, by decide, by decide +kernel, fun rr rl ro => ?_⟩
        refine ⟨_, rfl, _, rfl, by omega, ?_⟩
        refine r1 (.str (w ++ rr)) _ (Same.refl _) ⟨zs ++ [w ++ rr], by rw [List.map_append]; rfl, fun v hv => ?_, fun v hv => ?_⟩
        · rcases List.mem_append.mp hv with hv | hv
          · exact q1 v hv
          · obtain rfl := List.mem_singleton.mp hv
            rw [Str.length_append]
            omega
        · rcases List.mem_append.mp hv with hv | hv
          · exact q2 v hv
          · obtain rfl := List.mem_singleton.mp hv
            exact okS_app w2 ro
      · obtain ⟨zs, rfl, q1, q2⟩ := hacc
        rw [List.length_map, List.length_map, hl0] at la
        refine ⟨_, rfl, _, h9, _, e9 _ _ h8, by rw [List.length_map, List.length_map, List.length_map]; omega, fun l hl => ?_⟩
        have P9 := P8.same e9
        have b9 := b8.trans (.of e9)
        have e10 : Same H9 (upd H9 l (.lst (zs.map V.str ++ (zs0.map fun k => ("zz" : Str) ++ k).map V.str))) := same_new hl
        have g10 : (upd H9 l (.lst (zs.map V.str ++ (zs0.map fun k => ("zz" : Str) ++ k).map V.str))) l = some (.lst ((zs ++ zs0.map fun k => ("zz" : Str) ++ k).map V.str)) := by
          rw [upd_same, List.map_append]
        have P10 := P9.same e10
        have b10 := b9.trans (.of e10)
        generalize upd H9 l (.lst (zs.map V.str ++ (zs0.map fun k => ("zz" : Str) ++ k).map V.str)) = H10 at e10 g10 P10 b10
        have all : ∀ v ∈ zs ++ zs0.map fun k => ("zz" : Str) ++ k, v.length ≤ 201 ∧ OkS v := by
          intro v hv
          rcases List.mem_append.mp hv with hv | hv
          · exact ⟨q1 v hv, q2 v hv⟩
          · obtain ⟨w, hw, rfl⟩ := List.mem_map.mp hv
            obtain ⟨w1, w2, w3⟩ := hs1 w hw
            exact ⟨by rw [Str.length_append]; omega, okS_app (by decide +kernel) w2⟩
        have tl : (zs ++ zs0.map fun k => ("zz" : Str) ++ k).length = 46 := by
          rw [List.length_append, List.length_map]
          omega
        refine ⟨⟨_, .inl (.inl g10)⟩, ?_⟩
        refine lcg_pure (jseq_list K l ((zs ++ zs0.map fun k => ("zz" : Str) ++ k).map V.str)) (.inl (.inl g10)) (by rw [List.length_map]; omega) (fun _ => true) (fun x => match x with | .str k => .str (z ++ k) | _ => .non) (fun x hx H11 e11 R1 R0 r1 r0 => ?_) (fun D11 H11 hD11 e11 h11 => ?_)
        · obtain ⟨w, hw, rfl⟩ := List.mem_map.mp hx
          obtain ⟨w1, w2⟩ := all w hw
          walk_at "rd"
          exact ⟨by omega, r1 rfl _ (Same.refl _)⟩
        have h11 : H11 D11 = some (.lst (((zs ++ zs0.map fun k => ("zz" : Str) ++ k).map fun k => z ++ k).map V.str)) := by
          rw [h11, List.filter_eq_self.mpr fun _ _ => rfl, List.map_map, List.map_map]
          rfl
        have P11 := P10.same e11
        have b11 := b10.trans (.of e11)
        refine fin _ _ _ _ _ _ _ _ _ h11 (by rw [List.length_map]; omega) (fun v hv => ?_) (fun v hv => ?_) ?_ P11 b11
        · obtain ⟨w, hw, rfl⟩ := List.mem_map.mp hv
          have := (all w hw).1
          rw [Str.length_append]
          omega
        · obtain ⟨w, hw, rfl⟩ := List.mem_map.mp hv
          exact okS_app zok (all w hw).2
        · obtain ⟨w, hw⟩ := hex
          exact ⟨z ++ ("zz" ++ w), List.mem_map.mpr ⟨_, List.mem_append_right _ (List.mem_map.mpr ⟨w, hw, rfl⟩), rfl⟩, zz_free⟩
end
end Fp

namespace Fp
open PySem PySem.Spec PyProof.Rows L2
local macro_rules | `(tactic| walk_at "rd") => `(tactic| simp only [cxK, cxKn, tRet, tRetN, rIntI, rIntB, rLenL, rListL, rListT, rAbs, tDisp, tPairs, tC, tCB, tCons, tNil, tSl, tVar, tNoPart, tPart, rSlL, tOp, tAsg, gName, tIfS, tDrop, tTest, tAnd, tOr, Evl.tCut, tNot, tB, rI0, rI, rIxL, rIxT, rIxD, tDGet, sDPut, tLst, tTup, tBM, tBM0, tPar, rAppend, rPopAt, rPop, rExtend, rTupL, tCall, tNext, rAll, rOwnIn, rOwn2, rCat, lc_iL, lc_iT, lc_iK, lc_iR, lc_iE, fr_iL, fr_iT, fr_iR, tYes, rIn, rEq, rNe, gTup, gCons, gNil, wipe, tMeth, tFld, sFld, tMake, tProp, tIf, tAndV, tOrV, tNotV, tTru, rIsi, rSum, tRevL, rU, tUn, rIxS, iEnum, if_true, if_false, Bool.false_eq_true, List.map_cons, List.map_nil, List.nil_append, List.append_nil, List.cons_append, List.getElem?_cons_zero, List.getElem?_cons_succ, Option.some.injEq, exists_and_left, exists_eq_left', exists_eq_left, List.cons.injEq, and_true, true_and, V.ref.injEq, V.int.injEq, V.str.injEq, V.bl.injEq, List.set_cons_zero, List.set_cons_succ])
section
variable {K : PySem.W.Frag} {P : Program} {w : World} {base : Heap} {mg : Str → Option Value} {FE C : Addr}
theorem ini1 {f : Str} {a : Addr} {v : V} {H : Hp} {Q : VK} (e : EC K FE C) (nf : PySem.W.findIn K (.ref C) f = some none) (h : H a = some (exo a C none))
    (q : ∀ H', (∀ b o, H b = some o → b ≠ a → H' b = some o) → ExV H' a C [(f, v)] → Q .non H') : tOst K f (tVar 0) (tVar 1) { nx := fun _ H' => Q .non H', rt := Q } [some (.ref a), some v] H := by
  refine ⟨v, rfl, .ref a, rfl, a, C, rfl, e.oex, nf, .inl ⟨h, fun dx hd hn => q _ (fun b o hb hne => ?_) (.inr ⟨dx, upd_same, ?_⟩)⟩⟩
  · rw [upd_ne hne, upd_ne (ne_of_none hb hd)]
    exact hb
  · rw [upd_ne hn, upd_same]
abbrev s__own : Stmt := topS 1
theorem sc__own : FnScope ["given"] ["given"] (defScope s__own) := ⟨rfl, rfl, rfl, by decide +kernel, rfl, by decide +kernel, by decide +kernel⟩
theorem ok_ownL {f : Addr} {fd : FuncData} (F : Fun K "_own" "_own" s__own f fd) (m_isinstance : mg "isinstance" = none) (m_list : mg "list" = none) : FnOk P w K mg base CX0 1 f fd ["given"] spOwnL := by
  refine F.ok sc__own (fun vs H Q E h => ?_) (fun cdv A outer s H vs Q E hr h => ?_)
  · obtain ⟨b, xs, rfl, _⟩ := h
    rfl
  · obtain ⟨b, xs, rfl, hb, q⟩ := h
    refine ⟨_, (pss_cons (ps_if (pt_val (pe_callB (call_isi1 (K := K)) (by rfl) m_isinstance (by decide +kernel) (pa_cons (pv 0) (pa_cons (pe_bltn (v := .ty "list") rfl m_list (by decide +kernel) rfl) pa_nil))))
      (pss_one (ps_ret (pe_callTy (call_listK K) (by rfl) m_list (by decide +kernel) (pa_cons (pv 0) pa_nil))))
      pss_nil)
    (pss_one (ps_ret (pv 0)))), ?_⟩
    show tSeq _ _ _ [some (.ref b)] H
    refine seqi fun k hk => ?_
    walk_at "rd"
    refine ⟨_, _, ⟨rfl, rfl⟩, .type "list", .type "list", .ty _, .base (.lst hb), true, kit_ty (by decide +kernel), iteT ?_⟩
    exact ⟨_, .inl (.inl hb), q⟩
abbrev s_NoRule___init__ : Stmt := inClass (topS 3) 0
theorem sc_NoRule___init__ : FnScope ["self", "name"] ["self", "name"] (defScope s_NoRule___init__) := ⟨rfl, rfl, rfl, by decide +kernel, rfl, by decide +kernel, by decide +kernel⟩
theorem ok_NoRule {f : Addr} {fd : FuncData} (F : Fun K "__init__" "NoRule.__init__" s_NoRule___init__ f fd) (e : EC K FE C) (nf : PySem.W.findIn K (.ref C) "name" = some none) : FnOk P w K mg base C8.CX0 1 f fd ["self", "name"] (spI C "name") := by
  refine F.ok sc_NoRule___init__ (fun vs H Q E h => ?_) (fun cdv A outer s H vs Q E hr h => ?_)
  · obtain ⟨a, v, rfl, _⟩ := h
    rfl
  · obtain ⟨a, v, rfl, ha, q⟩ := h
    exact ⟨_, (pss_one (ps_ostK (K := K) (pv 0) (pv 1) rfl)), ini1 e nf ha q⟩
abbrev s_NoKind___init__ : Stmt := inClass (topS 4) 0
theorem sc_NoKind___init__ : FnScope ["self", "name"] ["self", "name"] (defScope s_NoKind___init__) := ⟨rfl, rfl, rfl, by decide +kernel, rfl, by decide +kernel, by decide +kernel⟩
theorem ok_NoKind {f : Addr} {fd : FuncData} (F : Fun K "__init__" "NoKind.__init__" s_NoKind___init__ f fd) (e : EC K FE C) (nf : PySem.W.findIn K (.ref C) "name" = some none) : FnOk P w K mg base C8.CX0 1 f fd ["self", "name"] (spI C "name") := by
  refine F.ok sc_NoKind___init__ (fun vs H Q E h => ?_) (fun cdv A outer s H vs Q E hr h => ?_)
  · obtain ⟨a, v, rfl, _⟩ := h
    rfl
  · obtain ⟨a, v, rfl, ha, q⟩ := h
    exact ⟨_, (pss_one (ps_ostK (K := K) (pv 0) (pv 1) rfl)), ini1 e nf ha q⟩
abbrev s_BadLoop___init__ : Stmt := inClass (topS 5) 0
theorem sc_BadLoop___init__ : FnScope ["self", "line"] ["self", "line"] (defScope s_BadLoop___init__) := ⟨rfl, rfl, rfl, by decide +kernel, rfl, by decide +kernel, by decide +kernel⟩
theorem ok_BadLoop {f : Addr} {fd : FuncData} (F : Fun K "__init__" "BadLoop.__init__" s_BadLoop___init__ f fd) (e : EC K FE C) (nf : PySem.W.findIn K (.ref C) "line" = some none) : FnOk P w K mg base C8.CX0 1 f fd ["self", "line"] (spI C "line") := by
  refine F.ok sc_BadLoop___init__ (fun vs H Q E h => ?_) (fun cdv A outer s H vs Q E hr h => ?_)
  · obtain ⟨a, v, rfl, _⟩ := h
    rfl
  · obtain ⟨a, v, rfl, ha, q⟩ := h
    exact ⟨_, (pss_one (ps_ostK (K := K) (pv 0) (pv 1) rfl)), ini1 e nf ha q⟩
abbrev s_BadTable___init__ : Stmt := inClass (topS 6) 0
theorem sc_BadTable___init__ : FnScope ["self", "line"] ["self", "line"] (defScope s_BadTable___init__) := ⟨rfl, rfl, rfl, by decide +kernel, rfl, by decide +kernel, by decide +kernel⟩
theorem ok_BadTable {f : Addr} {fd : FuncData} (F : Fun K "__init__" "BadTable.__init__" s_BadTable___init__ f fd) (e : EC K FE C) (nf : PySem.W.findIn K (.ref C) "line" = some none) : FnOk P w K mg base C8.CX0 1 f fd ["self", "line"] (spI C "line") := by
  refine F.ok sc_BadTable___init__ (fun vs H Q E h => ?_) (fun cdv A outer s H vs Q E hr h => ?_)
  · obtain ⟨a, v, rfl, _⟩ := h
    rfl
  · obtain ⟨a, v, rfl, ha, q⟩ := h
    exact ⟨_, (pss_one (ps_ostK (K := K) (pv 0) (pv 1) rfl)), ini1 e nf ha q⟩
abbrev s_BadTag___init__ : Stmt := inClass (topS 10) 0
theorem sc_BadTag___init__ : FnScope ["self", "index"] ["self", "index"] (defScope s_BadTag___init__) := ⟨rfl, rfl, rfl, by decide +kernel, rfl, by decide +kernel, by decide +kernel⟩
theorem ok_BadTag {f : Addr} {fd : FuncData} (F : Fun K "__init__" "BadTag.__init__" s_BadTag___init__ f fd) (e : EC K FE C) (nf : PySem.W.findIn K (.ref C) "index" = some none) : FnOk P w K mg base C8.CX0 1 f fd ["self", "index"] (spI C "index") := by
  refine F.ok sc_BadTag___init__ (fun vs H Q E h => ?_) (fun cdv A outer s H vs Q E hr h => ?_)
  · obtain ⟨a, v, rfl, _⟩ := h
    rfl
  · obtain ⟨a, v, rfl, ha, q⟩ := h
    exact ⟨_, (pss_one (ps_ostK (K := K) (pv 0) (pv 1) rfl)), ini1 e nf ha q⟩
abbrev s_BadValue___init__ : Stmt := inClass (topS 11) 0
theorem sc_BadValue___init__ : FnScope ["self", "value"] ["self", "value"] (defScope s_BadValue___init__) := ⟨rfl, rfl, rfl, by decide +kernel, rfl, by decide +kernel, by decide +kernel⟩
theorem ok_BadValue {f : Addr} {fd : FuncData} (F : Fun K "__init__" "BadValue.__init__" s_BadValue___init__ f fd) (e : EC K FE C) (nf : PySem.W.findIn K (.ref C) "value" = some none) : FnOk P w K mg base C8.CX0 1 f fd ["self", "value"] (spI C "value") := by
  refine F.ok sc_BadValue___init__ (fun vs H Q E h => ?_) (fun cdv A outer s H vs Q E hr h => ?_)
  · obtain ⟨a, v, rfl, _⟩ := h
    rfl
  · obtain ⟨a, v, rfl, ha, q⟩ := h
    exact ⟨_, (pss_one (ps_ostK (K := K) (pv 0) (pv 1) rfl)), ini1 e nf ha q⟩
abbrev s_BadSize___init__ : Stmt := inClass (topS 12) 0
theorem sc_BadSize___init__ : FnScope ["self", "size"] ["self", "size"] (defScope s_BadSize___init__) := ⟨rfl, rfl, rfl, by decide +kernel, rfl, by decide +kernel, by decide +kernel⟩
theorem ok_BadSize {f : Addr} {fd : FuncData} (F : Fun K "__init__" "BadSize.__init__" s_BadSize___init__ f fd) (e : EC K FE C) (nf : PySem.W.findIn K (.ref C) "size" = some none) : FnOk P w K mg base C8.CX0 1 f fd ["self", "size"] (spI C "size") := by
  refine F.ok sc_BadSize___init__ (fun vs H Q E h => ?_) (fun cdv A outer s H vs Q E hr h => ?_)
  · obtain ⟨a, v, rfl, _⟩ := h
    rfl
  · obtain ⟨a, v, rfl, ha, q⟩ := h
    exact ⟨_, (pss_one (ps_ostK (K := K) (pv 0) (pv 1) rfl)), ini1 e nf ha q⟩
abbrev s_NoNormal___init__ : Stmt := inClass (topS 14) 0
theorem sc_NoNormal___init__ : FnScope ["self", "name"] ["self", "name"] (defScope s_NoNormal___init__) := ⟨rfl, rfl, rfl, by decide +kernel, rfl, by decide +kernel, by decide +kernel⟩
theorem ok_NoNormal {f : Addr} {fd : FuncData} (F : Fun K "__init__" "NoNormal.__init__" s_NoNormal___init__ f fd) (e : EC K FE C) (nf : PySem.W.findIn K (.ref C) "name" = some none) : FnOk P w K mg base C8.CX0 1 f fd ["self", "name"] (spI C "name") := by
  refine F.ok sc_NoNormal___init__ (fun vs H Q E h => ?_) (fun cdv A outer s H vs Q E hr h => ?_)
  · obtain ⟨a, v, rfl, _⟩ := h
    rfl
  · obtain ⟨a, v, rfl, ha, q⟩ := h
    exact ⟨_, (pss_one (ps_ostK (K := K) (pv 0) (pv 1) rfl)), ini1 e nf ha q⟩
abbrev s_NotHere___init__ : Stmt := inClass (topS 15) 0
theorem sc_NotHere___init__ : FnScope ["self", "name"] ["self", "name"] (defScope s_NotHere___init__) := ⟨rfl, rfl, rfl, by decide +kernel, rfl, by decide +kernel, by decide +kernel⟩
theorem ok_NotHere {f : Addr} {fd : FuncData} (F : Fun K "__init__" "NotHere.__init__" s_NotHere___init__ f fd) (e : EC K FE C) (nf : PySem.W.findIn K (.ref C) "name" = some none) : FnOk P w K mg base C8.CX0 1 f fd ["self", "name"] (spI C "name") := by
  refine F.ok sc_NotHere___init__ (fun vs H Q E h => ?_) (fun cdv A outer s H vs Q E hr h => ?_)
  · obtain ⟨a, v, rfl, _⟩ := h
    rfl
  · obtain ⟨a, v, rfl, ha, q⟩ := h
    exact ⟨_, (pss_one (ps_ostK (K := K) (pv 0) (pv 1) rfl)), ini1 e nf ha q⟩
abbrev s_BadCount___init__ : Stmt := inClass (topS 17) 0
theorem sc_BadCount___init__ : FnScope ["self", "count"] ["self", "count"] (defScope s_BadCount___init__) := ⟨rfl, rfl, rfl, by decide +kernel, rfl, by decide +kernel, by decide +kernel⟩
theorem ok_BadCount {f : Addr} {fd : FuncData} (F : Fun K "__init__" "BadCount.__init__" s_BadCount___init__ f fd) (e : EC K FE C) (nf : PySem.W.findIn K (.ref C) "count" = some none) : FnOk P w K mg base C8.CX0 1 f fd ["self", "count"] (spI C "count") := by
  refine F.ok sc_BadCount___init__ (fun vs H Q E h => ?_) (fun cdv A outer s H vs Q E hr h => ?_)
  · obtain ⟨a, v, rfl, _⟩ := h
    rfl
  · obtain ⟨a, v, rfl, ha, q⟩ := h
    exact ⟨_, (pss_one (ps_ostK (K := K) (pv 0) (pv 1) rfl)), ini1 e nf ha q⟩
abbrev s_NoTag___init__ : Stmt := inClass (topS 18) 0
theorem sc_NoTag___init__ : FnScope ["self", "name"] ["self", "name"] (defScope s_NoTag___init__) := ⟨rfl, rfl, rfl, by decide +kernel, rfl, by decide +kernel, by decide +kernel⟩
theorem ok_NoTag {f : Addr} {fd : FuncData} (F : Fun K "__init__" "NoTag.__init__" s_NoTag___init__ f fd) (e : EC K FE C) (nf : PySem.W.findIn K (.ref C) "name" = some none) : FnOk P w K mg base C8.CX0 1 f fd ["self", "name"] (spI C "name") := by
  refine F.ok sc_NoTag___init__ (fun vs H Q E h => ?_) (fun cdv A outer s H vs Q E hr h => ?_)
  · obtain ⟨a, v, rfl, _⟩ := h
    rfl
  · obtain ⟨a, v, rfl, ha, q⟩ := h
    exact ⟨_, (pss_one (ps_ostK (K := K) (pv 0) (pv 1) rfl)), ini1 e nf ha q⟩
abbrev s_BadName___init__ : Stmt := inClass (topS 20) 0
theorem sc_BadName___init__ : FnScope ["self", "name"] ["self", "name"] (defScope s_BadName___init__) := ⟨rfl, rfl, rfl, by decide +kernel, rfl, by decide +kernel, by decide +kernel⟩
theorem ok_BadName {f : Addr} {fd : FuncData} (F : Fun K "__init__" "BadName.__init__" s_BadName___init__ f fd) (e : EC K FE C) (nf : PySem.W.findIn K (.ref C) "name" = some none) : FnOk P w K mg base C8.CX0 1 f fd ["self", "name"] (spI C "name") := by
  refine F.ok sc_BadName___init__ (fun vs H Q E h => ?_) (fun cdv A outer s H vs Q E hr h => ?_)
  · obtain ⟨a, v, rfl, _⟩ := h
    rfl
  · obtain ⟨a, v, rfl, ha, q⟩ := h
    exact ⟨_, (pss_one (ps_ostK (K := K) (pv 0) (pv 1) rfl)), ini1 e nf ha q⟩
abbrev s_NoLoop___init__ : Stmt := inClass (topS 21) 0
theorem sc_NoLoop___init__ : FnScope ["self", "name"] ["self", "name"] (defScope s_NoLoop___init__) := ⟨rfl, rfl, rfl, by decide +kernel, rfl, by decide +kernel, by decide +kernel⟩
theorem ok_NoLoop {f : Addr} {fd : FuncData} (F : Fun K "__init__" "NoLoop.__init__" s_NoLoop___init__ f fd) (e : EC K FE C) (nf : PySem.W.findIn K (.ref C) "name" = some none) : FnOk P w K mg base C8.CX0 1 f fd ["self", "name"] (spI C "name") := by
  refine F.ok sc_NoLoop___init__ (fun vs H Q E h => ?_) (fun cdv A outer s H vs Q E hr h => ?_)
  · obtain ⟨a, v, rfl, _⟩ := h
    rfl
  · obtain ⟨a, v, rfl, ha, q⟩ := h
    exact ⟨_, (pss_one (ps_ostK (K := K) (pv 0) (pv 1) rfl)), ini1 e nf ha q⟩
theorem inio {f : Str} {a b : Addr} {xs : List V} {H : Hp} {Q : VK} (e : EC K FE C) (nf : PySem.W.findIn K (.ref C) f = some none) (h : H a = some (exo a C none)) (hb : H b = some (.lst xs))
    (q : ∀ H' l, (∀ b o, H b = some o → b ≠ a → H' b = some o) → H' l = some (.lst xs) → ExV H' a C [(f, .ref l)] → Q .non H') : tOst K f (tVar 0) (tCall spOwnL [] E0 (tCons (tVar 1) tNil)) { nx := fun _ H' => Q .non H', rt := Q } [some (.ref a), some (.ref b)] H := by
  refine ⟨.ref b, rfl, b, xs, rfl, hb, fun l hl => ?_⟩
  have nla : a ≠ l := ne_of_none h hl
  refine ⟨.ref a, rfl, a, C, rfl, e.oex, nf, .inl ⟨by rw [upd_ne nla]; exact h, fun dx hd hn => ?_⟩⟩
  have ndl : l ≠ dx := fun z => by
    rw [← z, upd_same] at hd
    cases hd
  refine q _ l (fun c o hc hne => ?_) ?_ (.inr ⟨dx, upd_same, ?_⟩)
  · have ncl : c ≠ l := ne_of_none hc hl
    have ncd : c ≠ dx := fun z => by
      rw [← z, upd_ne ncl, hc] at hd
      cases hd
    rw [upd_ne hne, upd_ne ncd, upd_ne ncl]
    exact hc
  · rw [upd_ne nla.symm, upd_ne ndl, upd_same]
  · rw [upd_ne hn, upd_same]
abbrev s_EmptySum___init__ : Stmt := inClass (topS 7) 0
theorem sc_EmptySum___init__ : FnScope ["self", "row"] ["self", "row"] (defScope s_EmptySum___init__) := ⟨rfl, rfl, rfl, by decide +kernel, rfl, by decide +kernel, by decide +kernel⟩
theorem ok_EmptySum {f : Addr} {fd : FuncData} (F : Fun K "__init__" "EmptySum.__init__" s_EmptySum___init__ f fd) (e : EC K FE C) (nf : PySem.W.findIn K (.ref C) "row" = some none) (D_own : Dn P w K mg base 1 "_own" ["given"] spOwnL) : FnOk P w K mg base C8.CX0 2 f fd ["self", "row"] (spIo C "row") := by
  refine F.ok sc_EmptySum___init__ (fun vs H Q E h => ?_) (fun cdv A outer s H vs Q E hr h => ?_)
  · obtain ⟨a, b, xs, rfl, _⟩ := h
    rfl
  · obtain ⟨a, b, xs, rfl, ha, hb, q⟩ := h
    refine ⟨_, (pss_one (ps_ostK (K := K) (pv 0) (pd D_own (hr.mono (by decide)) (by rfl) (pa_cons (pv 1) pa_nil)) rfl)), ?_⟩
    show tOst K _ _ _ _ [some (.ref a), some (.ref b)] H
    exact inio e nf ha hb q
abbrev s_NotAlike___init__ : Stmt := inClass (topS 22) 0
theorem sc_NotAlike___init__ : FnScope ["self", "row"] ["self", "row"] (defScope s_NotAlike___init__) := ⟨rfl, rfl, rfl, by decide +kernel, rfl, by decide +kernel, by decide +kernel⟩
theorem ok_NotAlike {f : Addr} {fd : FuncData} (F : Fun K "__init__" "NotAlike.__init__" s_NotAlike___init__ f fd) (e : EC K FE C) (nf : PySem.W.findIn K (.ref C) "row" = some none) (D_own : Dn P w K mg base 1 "_own" ["given"] spOwnL) : FnOk P w K mg base C8.CX0 2 f fd ["self", "row"] (spIo C "row") := by
  refine F.ok sc_NotAlike___init__ (fun vs H Q E h => ?_) (fun cdv A outer s H vs Q E hr h => ?_)
  · obtain ⟨a, b, xs, rfl, _⟩ := h
    rfl
  · obtain ⟨a, b, xs, rfl, ha, hb, q⟩ := h
    refine ⟨_, (pss_one (ps_ostK (K := K) (pv 0) (pd D_own (hr.mono (by decide)) (by rfl) (pa_cons (pv 1) pa_nil)) rfl)), ?_⟩
    show tOst K _ _ _ _ [some (.ref a), some (.ref b)] H
    exact inio e nf ha hb q
abbrev s_Barred___init__ : Stmt := inClass (topS 23) 0
theorem sc_Barred___init__ : FnScope ["self", "names"] ["self", "names"] (defScope s_Barred___init__) := ⟨rfl, rfl, rfl, by decide +kernel, rfl, by decide +kernel, by decide +kernel⟩
theorem ok_Barred {f : Addr} {fd : FuncData} (F : Fun K "__init__" "Barred.__init__" s_Barred___init__ f fd) (e : EC K FE C) (nf : PySem.W.findIn K (.ref C) "names" = some none) (D_own : Dn P w K mg base 1 "_own" ["given"] spOwnL) : FnOk P w K mg base C8.CX0 2 f fd ["self", "names"] (spIo C "names") := by
  refine F.ok sc_Barred___init__ (fun vs H Q E h => ?_) (fun cdv A outer s H vs Q E hr h => ?_)
  · obtain ⟨a, b, xs, rfl, _⟩ := h
    rfl
  · obtain ⟨a, b, xs, rfl, ha, hb, q⟩ := h
    refine ⟨_, (pss_one (ps_ostK (K := K) (pv 0) (pd D_own (hr.mono (by decide)) (by rfl) (pa_cons (pv 1) pa_nil)) rfl)), ?_⟩
    show tOst K _ _ _ _ [some (.ref a), some (.ref b)] H
    exact inio e nf ha hb q
abbrev s_NotClosed___init__ : Stmt := inClass (topS 13) 0
theorem sc_NotClosed___init__ : FnScope ["self", "left", "right"] ["self", "left", "right"] (defScope s_NotClosed___init__) := ⟨rfl, rfl, rfl, by decide +kernel, rfl, by decide +kernel, by decide +kernel⟩
theorem ok_NotClosed {f : Addr} {fd : FuncData} (F : Fun K "__init__" "NotClosed.__init__" s_NotClosed___init__ f fd) (e : EC K FE C) (nf : PySem.W.findIn K (.ref C) "left" = some none) (ng : PySem.W.findIn K (.ref C) "right" = some none) : FnOk P w K mg base C8.CX0 1 f fd ["self", "left", "right"] (spI2 C "left" "right") := by
  refine F.ok sc_NotClosed___init__ (fun vs H Q E h => ?_) (fun cdv A outer s H vs Q E hr h => ?_)
  · obtain ⟨a, v, z, rfl, _⟩ := h
    rfl
  · obtain ⟨a, v, z, rfl, ha, q⟩ := h
    refine ⟨_, (pss_cons (ps_ostK (K := K) (pv 0) (pv 1) rfl)
    (pss_one (ps_ostK (K := K) (pv 0) (pv 2) rfl))), ?_⟩
    show tSeq _ _ _ [some (.ref a), some v, some z] H
    refine seqi fun k hk => ?_
    refine ⟨v, rfl, .ref a, rfl, a, C, rfl, e.oex, nf, .inl ⟨ha, fun dx hd hn => ?_⟩⟩
    subst hk
    have hx : (upd (upd H dx (exd dx [("left", v)])) a (exo a C (some dx))) dx = some (exd dx [("left", v)]) := by rw [upd_ne hn, upd_same]
    refine ⟨z, rfl, .ref a, rfl, a, C, rfl, e.oex, ng, .inr ⟨dx, _, upd_same, hx, (show 1 ≤ 900 by decide), ?_⟩⟩
    refine q _ (fun b o hb hne => ?_) (.inr ⟨dx, ?_, upd_same⟩)
    · rw [upd_ne (ne_of_none hb hd), upd_ne hne, upd_ne (ne_of_none hb hd)]
      exact hb
    · rw [upd_ne hn.symm, upd_same]
end
end Fp

namespace Fp
open PySem PySem.Spec PyProof.Rows L2
local macro_rules | `(tactic| walk_at "rd") => `(tactic| simp only [cxK, cxKn, tRet, tRetN, rIntI, rIntB, rLenL, rListL, rListT, rAbs, tDisp, tPairs, tC, tCB, tCons, tNil, tSl, tVar, tNoPart, tPart, rSlL, tOp, tAsg, gName, tIfS, tDrop, tTest, tAnd, tOr, Evl.tCut, tNot, tB, rI0, rI, rIxL, rIxT, rIxD, tDGet, sDPut, tLst, tTup, tBM, tBM0, tPar, rAppend, rPopAt, rPop, rExtend, rTupL, tCall, tNext, rAll, rOwnIn, rOwn2, rCat, lc_iL, lc_iT, lc_iK, lc_iR, lc_iE, fr_iL, fr_iT, fr_iR, tYes, rIn, rEq, rNe, gTup, gCons, gNil, wipe, tMeth, tFld, sFld, tMake, tProp, tIf, tAndV, tOrV, tNotV, tTru, rIsi, rSum, tRevL, rU, tUn, rIxS, iEnum, if_true, if_false, Bool.false_eq_true, List.map_cons, List.map_nil, List.nil_append, List.append_nil, List.cons_append, List.getElem?_cons_zero, List.getElem?_cons_succ, Option.some.injEq, exists_and_left, exists_eq_left', exists_eq_left, List.cons.injEq, and_true, true_and, V.ref.injEq, V.int.injEq, V.str.injEq, V.bl.injEq, List.set_cons_zero, List.set_cons_succ])
def cnS : Nat → Str := fun i => (["BadCount", "BadLoop", "BadName", "BadSize", "BadTable", "BadTag", "BadValue", "Barred", "Doubled", "EmptySum", "NoKind", "NoLoop", "NoNormal", "NoRule", "NoTag", "NotAlike", "NotHere", "NothingToUndo", "NotNeighbours", "OtherTags", "NotClosed", "TooMany"] : List Str).getD i ""
def T22 (T : Nat → Addr) : List Addr := (List.range 22).map T
def one22 (j : Nat) : Int := (if decide (j = 0) = true then (1 : Int) else 0) + (if decide (j = 1) = true then (1 : Int) else 0) + (if decide (j = 2) = true then (1 : Int) else 0) + (if decide (j = 3) = true then (1 : Int) else 0) + (if decide (j = 4) = true then (1 : Int) else 0) + (if decide (j = 5) = true then (1 : Int) else 0) + (if decide (j = 6) = true then (1 : Int) else 0) + (if decide (j = 7) = true then (1 : Int) else 0) + (if decide (j = 8) = true then (1 : Int) else 0) + (if decide (j = 9) = true then (1 : Int) else 0) + (if decide (j = 10) = true then (1 : Int) else 0) + (if decide (j = 11) = true then (1 : Int) else 0) + (if decide (j = 12) = true then (1 : Int) else 0) + (if decide (j = 13) = true then (1 : Int) else 0) + (if decide (j = 14) = true then (1 : Int) else 0) + (if decide (j = 15) = true then (1 : Int) else 0) + (if decide (j = 16) = true then (1 : Int) else 0) + (if decide (j = 17) = true then (1 : Int) else 0) + (if decide (j = 18) = true then (1 : Int) else 0) + (if decide (j = 19) = true then (1 : Int) else 0) + (if decide (j = 20) = true then (1 : Int) else 0) + (if decide (j = 21) = true then (1 : Int) else 0)
theorem one22_ok : ∀ j, j < 22 → one22 j = 1 := by decide +kernel
section
variable {K : PySem.W.Frag} {P : Program} {w : World} {base : Heap} {mg : Str → Option Value} {FE C : Addr} {T : Nat → Addr}
theorem t22_mem {i : Nat} (h : i < 22) : T i ∈ T22 T := List.mem_map.mpr ⟨i, List.mem_range.mpr h, rfl⟩
theorem t22_of {C : Addr} (h : C ∈ T22 T) : ∃ j, j < 22 ∧ C = T j := by
  obtain ⟨j, hj, rfl⟩ := List.mem_map.mp h
  exact ⟨j, List.mem_range.mp hj, rfl⟩
theorem EFam.kit (f : EFam K FE (T22 T)) {i j : Nat} (hj : j < 22) (hi : i < 22) : PySem.W.kitOne K (.ref (T j)) (.ref (T i)) = some (decide (j = i)) := by
  rw [f.is (t22_mem hj) (t22_mem hi)]
  congr 1
  refine decide_eq_decide.mpr ⟨fun e => ?_, fun e => by rw [e]⟩
  have nd := f.nd
  have hj' : j < (T22 T).length := by rw [T22, List.length_map, List.length_range]; exact hj
  have hi' : i < (T22 T).length := by rw [T22, List.length_map, List.length_range]; exact hi
  have pw := List.pairwise_iff_getElem.mp nd
  have at' : ∀ (x : Nat) (h : x < (T22 T).length), (T22 T)[x] = T x := fun x h => by simp only [T22, List.getElem_map, List.getElem_range]
  rcases Nat.lt_trichotomy j i with h | h | h
  · have := pw j i hj' hi' h
    rw [at', at'] at this
    exact absurd e this
  · exact h
  · have := pw i j hi' hj' h
    rw [at', at'] at this
    exact absurd e.symm this
abbrev s__law_classes : Stmt := topS 32
theorem sc__law_classes : FnScope ["e", "one"] ["e"] (defScope s__law_classes) := ⟨rfl, rfl, rfl, by decide +kernel, rfl, by decide +kernel, by decide +kernel⟩
theorem ok_classes {f : Addr} {fd : FuncData} (F : Fun K "_law_classes" "_law_classes" s__law_classes f fd) (G : EFam K FE (T22 T)) (M : ∀ i, i < 22 → mg (cnS i) = some (.ref (T i))) (m_isinstance : mg "isinstance" = none) (m_int : mg "int" = none) : FnOk P w K mg base CX0 1 f fd ["e"] (spClsN (T22 T)) := by
  refine F.ok sc__law_classes (fun vs H Q E h => ?_) (fun cdv A outer s H vs Q E hr h => ?_)
  · obtain ⟨a, C, fs, rfl, _⟩ := h
    rfl
  · obtain ⟨a, C, fs, rfl, hE, hC, q⟩ := h
    refine ⟨_, (pss_cons (ps_set (i := 1) sc__law_classes.nd rfl (.inl rfl) (pe_op op_add (pe_op op_add (pe_callTy call_intB (by rfl) m_int (by decide +kernel) (pa_cons (pe_callB (call_isV (K := K)) (by rfl) m_isinstance (by decide +kernel) (pa_cons (pv 0) (pa_cons (pe_glob rfl (M 0 (by decide)) (v := .ref (T 0)) rfl) pa_nil))) pa_nil)) (pe_callTy call_intB (by rfl) m_int (by decide +kernel) (pa_cons (pe_callB (call_isV (K := K)) (by rfl) m_isinstance (by decide +kernel) (pa_cons (pv 0) (pa_cons (pe_glob rfl (M 1 (by decide)) (v := .ref (T 1)) rfl) pa_nil))) pa_nil))) (pe_callTy call_intB (by rfl) m_int (by decide +kernel) (pa_cons (pe_callB (call_isV (K := K)) (by rfl) m_isinstance (by decide +kernel) (pa_cons (pv 0) (pa_cons (pe_glob rfl (M 2 (by decide)) (v := .ref (T 2)) rfl) pa_nil))) pa_nil))))
    (pss_cons (ps_set (i := 1) sc__law_classes.nd rfl (.inl rfl) (pe_op op_add (pe_op op_add (pe_op op_add (pv 1) (pe_callTy call_intB (by rfl) m_int (by decide +kernel) (pa_cons (pe_callB (call_isV (K := K)) (by rfl) m_isinstance (by decide +kernel) (pa_cons (pv 0) (pa_cons (pe_glob rfl (M 3 (by decide)) (v := .ref (T 3)) rfl) pa_nil))) pa_nil))) (pe_callTy call_intB (by rfl) m_int (by decide +kernel) (pa_cons (pe_callB (call_isV (K := K)) (by rfl) m_isinstance (by decide +kernel) (pa_cons (pv 0) (pa_cons (pe_glob rfl (M 4 (by decide)) (v := .ref (T 4)) rfl) pa_nil))) pa_nil))) (pe_callTy call_intB (by rfl) m_int (by decide +kernel) (pa_cons (pe_callB (call_isV (K := K)) (by rfl) m_isinstance (by decide +kernel) (pa_cons (pv 0) (pa_cons (pe_glob rfl (M 5 (by decide)) (v := .ref (T 5)) rfl) pa_nil))) pa_nil))))
    (pss_cons (ps_set (i := 1) sc__law_classes.nd rfl (.inl rfl) (pe_op op_add (pe_op op_add (pe_op op_add (pv 1) (pe_callTy call_intB (by rfl) m_int (by decide +kernel) (pa_cons (pe_callB (call_isV (K := K)) (by rfl) m_isinstance (by decide +kernel) (pa_cons (pv 0) (pa_cons (pe_glob rfl (M 6 (by decide)) (v := .ref (T 6)) rfl) pa_nil))) pa_nil))) (pe_callTy call_intB (by rfl) m_int (by decide +kernel) (pa_cons (pe_callB (call_isV (K := K)) (by rfl) m_isinstance (by decide +kernel) (pa_cons (pv 0) (pa_cons (pe_glob rfl (M 7 (by decide)) (v := .ref (T 7)) rfl) pa_nil))) pa_nil))) (pe_callTy call_intB (by rfl) m_int (by decide +kernel) (pa_cons (pe_callB (call_isV (K := K)) (by rfl) m_isinstance (by decide +kernel) (pa_cons (pv 0) (pa_cons (pe_glob rfl (M 8 (by decide)) (v := .ref (T 8)) rfl) pa_nil))) pa_nil))))
    (pss_cons (ps_set (i := 1) sc__law_classes.nd rfl (.inl rfl) (pe_op op_add (pe_op op_add (pe_op op_add (pv 1) (pe_callTy call_intB (by rfl) m_int (by decide +kernel) (pa_cons (pe_callB (call_isV (K := K)) (by rfl) m_isinstance (by decide +kernel) (pa_cons (pv 0) (pa_cons (pe_glob rfl (M 9 (by decide)) (v := .ref (T 9)) rfl) pa_nil))) pa_nil))) (pe_callTy call_intB (by rfl) m_int (by decide +kernel) (pa_cons (pe_callB (call_isV (K := K)) (by rfl) m_isinstance (by decide +kernel) (pa_cons (pv 0) (pa_cons (pe_glob rfl (M 10 (by decide)) (v := .ref (T 10)) rfl) pa_nil))) pa_nil))) (pe_callTy call_intB (by rfl) m_int (by decide +kernel) (pa_cons (pe_callB (call_isV (K := K)) (by rfl) m_isinstance (by decide +kernel) (pa_cons (pv 0) (pa_cons (pe_glob rfl (M 11 (by decide)) (v := .ref (T 11)) rfl) pa_nil))) pa_nil))))
    (pss_cons (ps_set (i := 1) sc__law_classes.nd rfl (.inl rfl) (pe_op op_add (pe_op op_add (pe_op op_add (pv 1) (pe_callTy call_intB (by rfl) m_int (by decide +kernel) (pa_cons (pe_callB (call_isV (K := K)) (by rfl) m_isinstance (by decide +kernel) (pa_cons (pv 0) (pa_cons (pe_glob rfl (M 12 (by decide)) (v := .ref (T 12)) rfl) pa_nil))) pa_nil))) (pe_callTy call_intB (by rfl) m_int (by decide +kernel) (pa_cons (pe_callB (call_isV (K := K)) (by rfl) m_isinstance (by decide +kernel) (pa_cons (pv 0) (pa_cons (pe_glob rfl (M 13 (by decide)) (v := .ref (T 13)) rfl) pa_nil))) pa_nil))) (pe_callTy call_intB (by rfl) m_int (by decide +kernel) (pa_cons (pe_callB (call_isV (K := K)) (by rfl) m_isinstance (by decide +kernel) (pa_cons (pv 0) (pa_cons (pe_glob rfl (M 14 (by decide)) (v := .ref (T 14)) rfl) pa_nil))) pa_nil))))
    (pss_cons (ps_set (i := 1) sc__law_classes.nd rfl (.inl rfl) (pe_op op_add (pe_op op_add (pe_op op_add (pv 1) (pe_callTy call_intB (by rfl) m_int (by decide +kernel) (pa_cons (pe_callB (call_isV (K := K)) (by rfl) m_isinstance (by decide +kernel) (pa_cons (pv 0) (pa_cons (pe_glob rfl (M 15 (by decide)) (v := .ref (T 15)) rfl) pa_nil))) pa_nil))) (pe_callTy call_intB (by rfl) m_int (by decide +kernel) (pa_cons (pe_callB (call_isV (K := K)) (by rfl) m_isinstance (by decide +kernel) (pa_cons (pv 0) (pa_cons (pe_glob rfl (M 16 (by decide)) (v := .ref (T 16)) rfl) pa_nil))) pa_nil))) (pe_callTy call_intB (by rfl) m_int (by decide +kernel) (pa_cons (pe_callB (call_isV (K := K)) (by rfl) m_isinstance (by decide +kernel) (pa_cons (pv 0) (pa_cons (pe_glob rfl (M 17 (by decide)) (v := .ref (T 17)) rfl) pa_nil))) pa_nil))))
    (pss_cons (ps_set (i := 1) sc__law_classes.nd rfl (.inl rfl) (pe_op op_add (pe_op op_add (pe_op op_add (pv 1) (pe_callTy call_intB (by rfl) m_int (by decide +kernel) (pa_cons (pe_callB (call_isV (K := K)) (by rfl) m_isinstance (by decide +kernel) (pa_cons (pv 0) (pa_cons (pe_glob rfl (M 18 (by decide)) (v := .ref (T 18)) rfl) pa_nil))) pa_nil))) (pe_callTy call_intB (by rfl) m_int (by decide +kernel) (pa_cons (pe_callB (call_isV (K := K)) (by rfl) m_isinstance (by decide +kernel) (pa_cons (pv 0) (pa_cons (pe_glob rfl (M 19 (by decide)) (v := .ref (T 19)) rfl) pa_nil))) pa_nil))) (pe_callTy call_intB (by rfl) m_int (by decide +kernel) (pa_cons (pe_callB (call_isV (K := K)) (by rfl) m_isinstance (by decide +kernel) (pa_cons (pv 0) (pa_cons (pe_glob rfl (M 20 (by decide)) (v := .ref (T 20)) rfl) pa_nil))) pa_nil))))
    (pss_one (ps_ret (pe_op op_add (pv 1) (pe_callTy call_intB (by rfl) m_int (by decide +kernel) (pa_cons (pe_callB (call_isV (K := K)) (by rfl) m_isinstance (by decide +kernel) (pa_cons (pv 0) (pa_cons (pe_glob rfl (M 21 (by decide)) (v := .ref (T 21)) rfl) pa_nil))) pa_nil)))))))))))), ?_⟩
    show tSeq _ _ _ [some (.ref a), none] H
    obtain ⟨j, hj, rfl⟩ := t22_of hC
    have X := G.exc hC
    have k : ∀ {i : Nat} {R : V → Hp → Prop}, i < 22 → R (.bl (decide (j = i))) H → rIsV K [.ref a, .ref (T i)] H R := fun {i R} hi r => ⟨a, T j, fs, _, _, _, rfl, hE, X, .own _, G.kit hj hi, r⟩
    refine seqi fun kk hk => ?_
    walk_at "rd"
    refine k (i := 0) (by decide) ⟨_, rfl, ?_⟩
    refine k (i := 1) (by decide) ⟨_, rfl, ?_⟩
    refine k (i := 2) (by decide) ⟨_, rfl, ?_⟩
    subst hk
    refine seqi fun kk hk => ?_
    walk_at "rd"
    refine k (i := 3) (by decide) ⟨_, rfl, ?_⟩
    refine k (i := 4) (by decide) ⟨_, rfl, ?_⟩
    refine k (i := 5) (by decide) ⟨_, rfl, ?_⟩
    subst hk
    refine seqi fun kk hk => ?_
    walk_at "rd"
    refine k (i := 6) (by decide) ⟨_, rfl, ?_⟩
    refine k (i := 7) (by decide) ⟨_, rfl, ?_⟩
    refine k (i := 8) (by decide) ⟨_, rfl, ?_⟩
    subst hk
    refine seqi fun kk hk => ?_
    walk_at "rd"
    refine k (i := 9) (by decide) ⟨_, rfl, ?_⟩
    refine k (i := 10) (by decide) ⟨_, rfl, ?_⟩
    refine k (i := 11) (by decide) ⟨_, rfl, ?_⟩
    subst hk
    refine seqi fun kk hk => ?_
    walk_at "rd"
    refine k (i := 12) (by decide) ⟨_, rfl, ?_⟩
    refine k (i := 13) (by decide) ⟨_, rfl, ?_⟩
    refine k (i := 14) (by decide) ⟨_, rfl, ?_⟩
    subst hk
    refine seqi fun kk hk => ?_
    walk_at "rd"
    refine k (i := 15) (by decide) ⟨_, rfl, ?_⟩
    refine k (i := 16) (by decide) ⟨_, rfl, ?_⟩
    refine k (i := 17) (by decide) ⟨_, rfl, ?_⟩
    subst hk
    refine seqi fun kk hk => ?_
    walk_at "rd"
    refine k (i := 18) (by decide) ⟨_, rfl, ?_⟩
    refine k (i := 19) (by decide) ⟨_, rfl, ?_⟩
    refine k (i := 20) (by decide) ⟨_, rfl, ?_⟩
    subst hk
    walk_at "rd"
    refine k (i := 21) (by decide) ⟨_, rfl, ?_⟩
    exact (congrArg (fun z => Q (V.int z) H) (one22_ok j hj)).mpr q
end
end Fp

namespace Fp
open PySem PySem.Spec PyProof.Rows L2
local macro_rules | `(tactic| walk_at "rd") => `(tactic| simp only [cxK, cxKn, tRet, tRetN, rIntI, rIntB, rLenL, rListL, rListT, rAbs, tDisp, tPairs, tC, tCB, tCons, tNil, tSl, tVar, tNoPart, tPart, rSlL, tOp, tAsg, gName, tIfS, tDrop, tTest, tAnd, tOr, Evl.tCut, tNot, tB, rI0, rI, rIxL, rIxT, rIxD, tDGet, sDPut, tLst, tTup, tBM, tBM0, tPar, tPar3, rAppend, rPopAt, rPop, rExtend, rTupL, tCall, tNext, rAll, rOwnIn, rOwn2, rCat, lc_iL, lc_iT, lc_iK, lc_iR, lc_iE, fr_iL, fr_iT, fr_iR, tYes, rIn, rEq, rNe, gTup, gCons, gNil, wipe, tMeth, tFld, sFld, tMake, tProp, tIf, tAndV, tOrV, tNotV, tTru, rIsi, rSum, tRevL, rU, tUn, rIxS, iEnum, tMkE, tMkS, tFldE, if_true, if_false, Bool.false_eq_true, List.map_cons, List.map_nil, List.nil_append, List.append_nil, List.cons_append, List.getElem?_cons_zero, List.getElem?_cons_succ, Option.some.injEq, exists_and_left, exists_eq_left', exists_eq_left, List.cons.injEq, and_true, true_and, V.ref.injEq, V.int.injEq, V.str.injEq, V.bl.injEq, List.set_cons_zero, List.set_cons_succ])
section
variable {K : PySem.W.Frag} {P : Program} {w : World} {base : Heap} {mg : Str → Option Value} {FE C : Addr} {T : Nat → Addr}
theorem mk1 {f : Str} {v : V} {H : Hp} {R : Addr → Hp → Prop} (q : ∀ a H', Same H H' → ExV H' a C [(f, v)] → R a H') : [v].length ≤ 1000 ∧ ∀ a, H a = none → spI C f [.ref a, v] (upd H a (exo a C none)) (fun u H2 => u = .non ∧ R a H2) C8.E0 :=
  ⟨by show 1 ≤ 1000; decide, fun a ha => ⟨a, v, rfl, upd_same, fun H' k e => ⟨rfl, q a H' (fun b o hb => k b o (by rw [upd_ne (ne_of_none hb ha)]; exact hb) (ne_of_none hb ha)) e⟩⟩⟩
abbrev s__law_is_one : Stmt := topS 35
theorem sc__law_is_one : FnScope ["e", "kind"] ["e", "kind"] (defScope s__law_is_one) := ⟨rfl, rfl, rfl, by decide +kernel, rfl, by decide +kernel, by decide +kernel⟩
theorem ok_isone {f : Addr} {fd : FuncData} (F : Fun K "_law_is_one" "_law_is_one" s__law_is_one f fd) (G : EFam K FE (T22 T)) (m_FoldError : mg "FoldError" = some (.ref FE)) (m_isinstance : mg "isinstance" = none) (m_ValueError : mg "ValueError" = none)
    (D_law_classes : Dn P w K mg base 1 "_law_classes" ["e"] (spClsN (T22 T))) : FnOk P w K mg base CX0 2 f fd ["e", "kind"] (spIsOne (T22 T)) := by
  refine F.ok sc__law_is_one (fun vs H Q E h => ?_) (fun cdv A outer s H vs Q E hr h => ?_)
  · obtain ⟨a, C, fs, rfl, _⟩ := h
    rfl
  · obtain ⟨a, C, fs, rfl, hE, hC, q⟩ := h
    refine ⟨_, (pss_one (ps_ret (pe_and (pv 1) (pe_and (pe_callB (call_isV (K := K)) (by rfl) m_isinstance (by decide +kernel) (pa_cons (pv 0) (pa_cons (pe_glob rfl m_FoldError (v := .ref FE) rfl) pa_nil))) (pe_and (pe_callB (call_isV (K := K)) (by rfl) m_isinstance (by decide +kernel) (pa_cons (pv 0) (pa_cons (pe_bltn (v := .ty "ValueError") rfl m_ValueError (by decide +kernel) rfl) pa_nil))) (pe_one (pe_cmpR op_eq (pd D_law_classes (hr.mono (by decide)) (by rfl) (pa_cons (pv 0) pa_nil)) pe_int (nomark _)))))))), ?_⟩
    show tRet _ _ [some (.ref a), some (.bl true)] H
    have X := G.exc hC
    walk_at "rd"
    refine ⟨a, C, fs, _, _, _, rfl, hE, X, .own _, G.isF hC, _, rfl, iteT ?_⟩
    refine ⟨a, C, fs, _, _, _, rfl, hE, X, .ty _, G.isVE hC, _, rfl, iteT ?_⟩
    refine ⟨a, C, fs, rfl, hE, hC, ?_⟩
    exact ⟨rfl, q⟩
abbrev s__law_numbered : Stmt := topS 33
theorem sc__law_numbered : FnScope ["number", "one", "two", "three", "four", "five", "six", "found"] ["number"] (defScope s__law_numbered) := ⟨rfl, rfl, rfl, by decide +kernel, rfl, by decide +kernel, by decide +kernel⟩
theorem ok_numbered {f : Addr} {fd : FuncData} (F : Fun K "_law_numbered" "_law_numbered" s__law_numbered f fd) (G : EFam K FE (T22 T)) (M : ∀ i, i < 22 → mg (cnS i) = some (.ref (T i)))
    (N_BadLoop : Xn P w K mg base 1 (T 1) ["self", "line"] (spI (T 1) "line")) (f_BadLoop : PySem.W.findIn K (.ref (T 1)) "line" = some none)
    (N_BadTable : Xn P w K mg base 1 (T 4) ["self", "line"] (spI (T 4) "line")) (f_BadTable : PySem.W.findIn K (.ref (T 4)) "line" = some none)
    (N_BadTag : Xn P w K mg base 1 (T 5) ["self", "index"] (spI (T 5) "index")) (f_BadTag : PySem.W.findIn K (.ref (T 5)) "index" = some none)
    (N_BadValue : Xn P w K mg base 1 (T 6) ["self", "value"] (spI (T 6) "value")) (f_BadValue : PySem.W.findIn K (.ref (T 6)) "value" = some none)
    (N_BadSize : Xn P w K mg base 1 (T 3) ["self", "size"] (spI (T 3) "size")) (f_BadSize : PySem.W.findIn K (.ref (T 3)) "size" = some none)
    (N_BadCount : Xn P w K mg base 1 (T 0) ["self", "count"] (spI (T 0) "count")) (f_BadCount : PySem.W.findIn K (.ref (T 0)) "count" = some none)
    : FnOk P w K mg base CX0 3 f fd ["number"] (spErrs (T22 T)) := by
  refine F.ok sc__law_numbered (fun vs H Q E h => ?_) (fun cdv A outer s H vs Q E hr h => ?_)
  · obtain ⟨v, rfl, _⟩ := h
    rfl
  · obtain ⟨v, rfl, q⟩ := h
    refine ⟨_, (pss_cons (ps_par3 (i := 1) (j := 2) (l := 3) rfl sc__law_numbered.nd rfl rfl rfl (by decide) (by decide) (by decide) rfl rfl rfl (pa_cons (pkE N_BadLoop (hr.mono (by decide)) (by rfl) (M 1 (by decide)) (pa_cons (pv 0) pa_nil)) (pa_cons (pkE N_BadTable (hr.mono (by decide)) (by rfl) (M 4 (by decide)) (pa_cons (pv 0) pa_nil)) (pa_cons (pkE N_BadTag (hr.mono (by decide)) (by rfl) (M 5 (by decide)) (pa_cons (pv 0) pa_nil)) pa_nil))) rfl)
    (pss_cons (ps_par3 (i := 4) (j := 5) (l := 6) rfl sc__law_numbered.nd rfl rfl rfl (by decide) (by decide) (by decide) rfl rfl rfl (pa_cons (pkE N_BadValue (hr.mono (by decide)) (by rfl) (M 6 (by decide)) (pa_cons (pv 0) pa_nil)) (pa_cons (pkE N_BadSize (hr.mono (by decide)) (by rfl) (M 3 (by decide)) (pa_cons (pv 0) pa_nil)) (pa_cons (pkE N_BadCount (hr.mono (by decide)) (by rfl) (M 0 (by decide)) (pa_cons (pv 0) pa_nil)) pa_nil))) rfl)
    (pss_cons (ps_set (i := 7) sc__law_numbered.nd rfl (.inl rfl) (pe_lst (pa_cons (pe_tup (pa_cons (pv 1) (pa_cons (pe_fldE (K := K) (pv 1)) pa_nil))) (pa_cons (pe_tup (pa_cons (pv 2) (pa_cons (pe_fldE (K := K) (pv 2)) pa_nil))) (pa_cons (pe_tup (pa_cons (pv 3) (pa_cons (pe_fldE (K := K) (pv 3)) pa_nil))) (pa_cons (pe_tup (pa_cons (pv 4) (pa_cons (pe_fldE (K := K) (pv 4)) pa_nil))) pa_nil))))))
    (pss_one (ps_ret (pe_op op_cat (pv 7) (pe_lst (pa_cons (pe_tup (pa_cons (pv 5) (pa_cons (pe_fldE (K := K) (pv 5)) pa_nil))) (pa_cons (pe_tup (pa_cons (pv 6) (pa_cons (pe_fldE (K := K) (pv 6)) pa_nil))) pa_nil))))))))), ?_⟩
    show tSeq _ _ _ [some v, none, none, none, none, none, none, none] H
    have e := Same.refl H
    refine seqi fun k hk => ?_
    walk_at "rd"
    refine mk1 fun a1 G1 ee x1_ => ?_
    have e := e.trans ee
    clear ee
    have x1 := x1_
    clear x1_
    refine mk1 fun a2 G2 ee x2_ => ?_
    have x1 := x1.same ee
    have e := e.trans ee
    clear ee
    have x2 := x2_
    clear x2_
    refine mk1 fun a3 G3 ee x3_ => ?_
    have x1 := x1.same ee
    have x2 := x2.same ee
    have e := e.trans ee
    clear ee
    have x3 := x3_
    clear x3_
    refine ⟨_, _, _, ⟨rfl, rfl, rfl⟩, ?_⟩
    subst hk
    refine seqi fun k hk => ?_
    walk_at "rd"
    refine mk1 fun a4 G4 ee x4_ => ?_
    have x1 := x1.same ee
    have x2 := x2.same ee
    have x3 := x3.same ee
    have e := e.trans ee
    clear ee
    have x4 := x4_
    clear x4_
    refine mk1 fun a5 G5 ee x5_ => ?_
    have x1 := x1.same ee
    have x2 := x2.same ee
    have x3 := x3.same ee
    have x4 := x4.same ee
    have e := e.trans ee
    clear ee
    have x5 := x5_
    clear x5_
    refine mk1 fun a6 G6 ee x6_ => ?_
    have x1 := x1.same ee
    have x2 := x2.same ee
    have x3 := x3.same ee
    have x4 := x4.same ee
    have x5 := x5.same ee
    have e := e.trans ee
    clear ee
    have x6 := x6_
    clear x6_
    refine ⟨_, _, _, ⟨rfl, rfl, rfl⟩, ?_⟩
    subst hk
    refine seqi fun k hk => ?_
    walk_at "rd"
    refine ⟨_, _, x1, (G.ec _ (t22_mem (i := 1) (by decide))).xf, f_BadLoop, _, rfl, (show 2 ≤ sizeLine by decide), fun p1 hp1 => ?_⟩
    have ee := same_new (o := .tup [.ref a1, v]) hp1
    have t1_ : (upd G6 p1 (.tup [.ref a1, v])) p1 = some (.tup [.ref a1, v]) := upd_same
    generalize upd G6 p1 (.tup [.ref a1, v]) = G7 at ee t1_ ⊢
    have x1 := x1.same ee
    have x2 := x2.same ee
    have x3 := x3.same ee
    have x4 := x4.same ee
    have x5 := x5.same ee
    have x6 := x6.same ee
    have e := e.trans ee
    clear ee hp1
    have t1 := t1_
    clear t1_
    refine ⟨_, _, x2, (G.ec _ (t22_mem (i := 4) (by decide))).xf, f_BadTable, _, rfl, (show 2 ≤ sizeLine by decide), fun p2 hp2 => ?_⟩
    have ee := same_new (o := .tup [.ref a2, v]) hp2
    have t2_ : (upd G7 p2 (.tup [.ref a2, v])) p2 = some (.tup [.ref a2, v]) := upd_same
    generalize upd G7 p2 (.tup [.ref a2, v]) = G8 at ee t2_ ⊢
    have x1 := x1.same ee
    have x2 := x2.same ee
    have x3 := x3.same ee
    have x4 := x4.same ee
    have x5 := x5.same ee
    have x6 := x6.same ee
    have t1 := ee _ _ t1
    have e := e.trans ee
    clear ee hp2
    have t2 := t2_
    clear t2_
    refine ⟨_, _, x3, (G.ec _ (t22_mem (i := 5) (by decide))).xf, f_BadTag, _, rfl, (show 2 ≤ sizeLine by decide), fun p3 hp3 => ?_⟩
    have ee := same_new (o := .tup [.ref a3, v]) hp3
    have t3_ : (upd G8 p3 (.tup [.ref a3, v])) p3 = some (.tup [.ref a3, v]) := upd_same
    generalize upd G8 p3 (.tup [.ref a3, v]) = G9 at ee t3_ ⊢
    have x1 := x1.same ee
    have x2 := x2.same ee
    have x3 := x3.same ee
    have x4 := x4.same ee
    have x5 := x5.same ee
    have x6 := x6.same ee
    have t1 := ee _ _ t1
    have t2 := ee _ _ t2
    have e := e.trans ee
    clear ee hp3
    have t3 := t3_
    clear t3_
    refine ⟨_, _, x4, (G.ec _ (t22_mem (i := 6) (by decide))).xf, f_BadValue, _, rfl, (show 2 ≤ sizeLine by decide), fun p4 hp4 => ?_⟩
    have ee := same_new (o := .tup [.ref a4, v]) hp4
    have t4_ : (upd G9 p4 (.tup [.ref a4, v])) p4 = some (.tup [.ref a4, v]) := upd_same
    generalize upd G9 p4 (.tup [.ref a4, v]) = G10 at ee t4_ ⊢
    have x1 := x1.same ee
    have x2 := x2.same ee
    have x3 := x3.same ee
    have x4 := x4.same ee
    have x5 := x5.same ee
    have x6 := x6.same ee
    have t1 := ee _ _ t1
    have t2 := ee _ _ t2
    have t3 := ee _ _ t3
    have e := e.trans ee
    clear ee hp4
    have t4 := t4_
    clear t4_
    refine ⟨(show 4 ≤ sizeLine by decide), fun l1 hl1 => ?_⟩
    have ee := same_new (o := .lst [.ref p1, .ref p2, .ref p3, .ref p4]) hl1
    have z1_ : (upd G10 l1 (.lst [.ref p1, .ref p2, .ref p3, .ref p4])) l1 = some (.lst [.ref p1, .ref p2, .ref p3, .ref p4]) := upd_same
    generalize upd G10 l1 (.lst [.ref p1, .ref p2, .ref p3, .ref p4]) = G11 at ee z1_ ⊢
    have x1 := x1.same ee
    have x2 := x2.same ee
    have x3 := x3.same ee
    have x4 := x4.same ee
    have x5 := x5.same ee
    have x6 := x6.same ee
    have t1 := ee _ _ t1
    have t2 := ee _ _ t2
    have t3 := ee _ _ t3
    have t4 := ee _ _ t4
    have e := e.trans ee
    clear ee hl1
    have z1 := z1_
    clear z1_
    subst hk
    walk_at "rd"
    refine ⟨_, _, x5, (G.ec _ (t22_mem (i := 3) (by decide))).xf, f_BadSize, _, rfl, (show 2 ≤ sizeLine by decide), fun p5 hp5 => ?_⟩
    have ee := same_new (o := .tup [.ref a5, v]) hp5
    have t5_ : (upd G11 p5 (.tup [.ref a5, v])) p5 = some (.tup [.ref a5, v]) := upd_same
    generalize upd G11 p5 (.tup [.ref a5, v]) = G12 at ee t5_ ⊢
    have x1 := x1.same ee
    have x2 := x2.same ee
    have x3 := x3.same ee
    have x4 := x4.same ee
    have x5 := x5.same ee
    have x6 := x6.same ee
    have t1 := ee _ _ t1
    have t2 := ee _ _ t2
    have t3 := ee _ _ t3
    have t4 := ee _ _ t4
    have z1 := ee _ _ z1
    have e := e.trans ee
    clear ee hp5
    have t5 := t5_
    clear t5_
    refine ⟨_, _, x6, (G.ec _ (t22_mem (i := 0) (by decide))).xf, f_BadCount, _, rfl, (show 2 ≤ sizeLine by decide), fun p6 hp6 => ?_⟩
    have ee := same_new (o := .tup [.ref a6, v]) hp6
    have t6_ : (upd G12 p6 (.tup [.ref a6, v])) p6 = some (.tup [.ref a6, v]) := upd_same
    generalize upd G12 p6 (.tup [.ref a6, v]) = G13 at ee t6_ ⊢
    have x1 := x1.same ee
    have x2 := x2.same ee
    have x3 := x3.same ee
    have x4 := x4.same ee
    have x5 := x5.same ee
    have x6 := x6.same ee
    have t1 := ee _ _ t1
    have t2 := ee _ _ t2
    have t3 := ee _ _ t3
    have t4 := ee _ _ t4
    have z1 := ee _ _ z1
    have t5 := ee _ _ t5
    have e := e.trans ee
    clear ee hp6
    have t6 := t6_
    clear t6_
    refine ⟨(show 2 ≤ sizeLine by decide), fun l2 hl2 => ?_⟩
    have ee := same_new (o := .lst [.ref p5, .ref p6]) hl2
    have z2_ : (upd G13 l2 (.lst [.ref p5, .ref p6])) l2 = some (.lst [.ref p5, .ref p6]) := upd_same
    generalize upd G13 l2 (.lst [.ref p5, .ref p6]) = G14 at ee z2_ ⊢
    have x1 := x1.same ee
    have x2 := x2.same ee
    have x3 := x3.same ee
    have x4 := x4.same ee
    have x5 := x5.same ee
    have x6 := x6.same ee
    have t1 := ee _ _ t1
    have t2 := ee _ _ t2
    have t3 := ee _ _ t3
    have t4 := ee _ _ t4
    have z1 := ee _ _ z1
    have t5 := ee _ _ t5
    have t6 := ee _ _ t6
    have e := e.trans ee
    clear ee hl2
    have z2 := z2_
    clear z2_
    refine ⟨_, z1, _, z2, (show 6 ≤ sizeLine by decide), fun l3 hl3 => ?_⟩
    have ee := same_new (o := .lst ([.ref p1, .ref p2, .ref p3, .ref p4] ++ [.ref p5, .ref p6])) hl3
    refine q l3 _ [p1, p2, p3, p4, p5, p6] (e.trans ee) upd_same (by show 6 ≤ 10; decide) (fun p hp => ?_)
    simp only [List.mem_cons, List.not_mem_nil, or_false] at hp
    rcases hp with rfl | rfl | rfl | rfl | rfl | rfl
    · exact ⟨a1, _, _, ee _ _ t1, x1.same ee, t22_mem (by decide)⟩
    · exact ⟨a2, _, _, ee _ _ t2, x2.same ee, t22_mem (by decide)⟩
    · exact ⟨a3, _, _, ee _ _ t3, x3.same ee, t22_mem (by decide)⟩
    · exact ⟨a4, _, _, ee _ _ t4, x4.same ee, t22_mem (by decide)⟩
    · exact ⟨a5, _, _, ee _ _ t5, x5.same ee, t22_mem (by decide)⟩
    · exact ⟨a6, _, _, ee _ _ t6, x6.same ee, t22_mem (by decide)⟩
abbrev s__law_named : Stmt := topS 34
theorem sc__law_named : FnScope ["text", "one", "two", "three", "four", "five", "six", "seven", "found"] ["text"] (defScope s__law_named) := ⟨rfl, rfl, rfl, by decide +kernel, rfl, by decide +kernel, by decide +kernel⟩
theorem ok_named {f : Addr} {fd : FuncData} (F : Fun K "_law_named" "_law_named" s__law_named f fd) (G : EFam K FE (T22 T)) (M : ∀ i, i < 22 → mg (cnS i) = some (.ref (T i)))
    (N_NoRule : Xn P w K mg base 1 (T 13) ["self", "name"] (spI (T 13) "name")) (f_NoRule : PySem.W.findIn K (.ref (T 13)) "name" = some none)
    (N_NoKind : Xn P w K mg base 1 (T 10) ["self", "name"] (spI (T 10) "name")) (f_NoKind : PySem.W.findIn K (.ref (T 10)) "name" = some none)
    (N_NoNormal : Xn P w K mg base 1 (T 12) ["self", "name"] (spI (T 12) "name")) (f_NoNormal : PySem.W.findIn K (.ref (T 12)) "name" = some none)
    (N_NotHere : Xn P w K mg base 1 (T 16) ["self", "name"] (spI (T 16) "name")) (f_NotHere : PySem.W.findIn K (.ref (T 16)) "name" = some none)
    (N_NoTag : Xn P w K mg base 1 (T 14) ["self", "name"] (spI (T 14) "name")) (f_NoTag : PySem.W.findIn K (.ref (T 14)) "name" = some none)
    (N_BadName : Xn P w K mg base 1 (T 2) ["self", "name"] (spI (T 2) "name")) (f_BadName : PySem.W.findIn K (.ref (T 2)) "name" = some none)
    (N_NoLoop : Xn P w K mg base 1 (T 11) ["self", "name"] (spI (T 11) "name")) (f_NoLoop : PySem.W.findIn K (.ref (T 11)) "name" = some none)
    : FnOk P w K mg base CX0 3 f fd ["text"] (spErrs (T22 T)) := by
  refine F.ok sc__law_named (fun vs H Q E h => ?_) (fun cdv A outer s H vs Q E hr h => ?_)
  · obtain ⟨v, rfl, _⟩ := h
    rfl
  · obtain ⟨v, rfl, q⟩ := h
    refine ⟨_, (pss_cons (ps_par3 (i := 1) (j := 2) (l := 3) rfl sc__law_named.nd rfl rfl rfl (by decide) (by decide) (by decide) rfl rfl rfl (pa_cons (pkE N_NoRule (hr.mono (by decide)) (by rfl) (M 13 (by decide)) (pa_cons (pv 0) pa_nil)) (pa_cons (pkE N_NoKind (hr.mono (by decide)) (by rfl) (M 10 (by decide)) (pa_cons (pv 0) pa_nil)) (pa_cons (pkE N_NoNormal (hr.mono (by decide)) (by rfl) (M 12 (by decide)) (pa_cons (pv 0) pa_nil)) pa_nil))) rfl)
    (pss_cons (ps_par (i := 4) (j := 5) rfl sc__law_named.nd rfl rfl (by decide) rfl rfl (pa_cons (pkE N_NotHere (hr.mono (by decide)) (by rfl) (M 16 (by decide)) (pa_cons (pv 0) pa_nil)) (pa_cons (pkE N_NoTag (hr.mono (by decide)) (by rfl) (M 14 (by decide)) (pa_cons (pv 0) pa_nil)) pa_nil)) rfl)
    (pss_cons (ps_par (i := 6) (j := 7) rfl sc__law_named.nd rfl rfl (by decide) rfl rfl (pa_cons (pkE N_BadName (hr.mono (by decide)) (by rfl) (M 2 (by decide)) (pa_cons (pv 0) pa_nil)) (pa_cons (pkE N_NoLoop (hr.mono (by decide)) (by rfl) (M 11 (by decide)) (pa_cons (pv 0) pa_nil)) pa_nil)) rfl)
    (pss_cons (ps_set (i := 8) sc__law_named.nd rfl (.inl rfl) (pe_lst (pa_cons (pe_tup (pa_cons (pv 1) (pa_cons (pe_fldE (K := K) (pv 1)) pa_nil))) (pa_cons (pe_tup (pa_cons (pv 2) (pa_cons (pe_fldE (K := K) (pv 2)) pa_nil))) (pa_cons (pe_tup (pa_cons (pv 3) (pa_cons (pe_fldE (K := K) (pv 3)) pa_nil))) (pa_cons (pe_tup (pa_cons (pv 4) (pa_cons (pe_fldE (K := K) (pv 4)) pa_nil))) pa_nil))))))
    (pss_one (ps_ret (pe_op op_cat (pv 8) (pe_lst (pa_cons (pe_tup (pa_cons (pv 5) (pa_cons (pe_fldE (K := K) (pv 5)) pa_nil))) (pa_cons (pe_tup (pa_cons (pv 6) (pa_cons (pe_fldE (K := K) (pv 6)) pa_nil))) (pa_cons (pe_tup (pa_cons (pv 7) (pa_cons (pe_fldE (K := K) (pv 7)) pa_nil))) pa_nil))))))))))), ?_⟩
    show tSeq _ _ _ [some v, none, none, none, none, none, none, none, none] H
    have e := Same.refl H
    refine seqi fun k hk => ?_
    walk_at "rd"
    refine mk1 fun a1 G1 ee x1_ => ?_
    have e := e.trans ee
    clear ee
    have x1 := x1_
    clear x1_
    refine mk1 fun a2 G2 ee x2_ => ?_
    have x1 := x1.same ee
    have e := e.trans ee
    clear ee
    have x2 := x2_
    clear x2_
    refine mk1 fun a3 G3 ee x3_ => ?_
    have x1 := x1.same ee
    have x2 := x2.same ee
    have e := e.trans ee
    clear ee
    have x3 := x3_
    clear x3_
    refine ⟨_, _, _, ⟨rfl, rfl, rfl⟩, ?_⟩
    subst hk
    refine seqi fun k hk => ?_
    walk_at "rd"
    refine mk1 fun a4 G4 ee x4_ => ?_
    have x1 := x1.same ee
    have x2 := x2.same ee
    have x3 := x3.same ee
    have e := e.trans ee
    clear ee
    have x4 := x4_
    clear x4_
    refine mk1 fun a5 G5 ee x5_ => ?_
    have x1 := x1.same ee
    have x2 := x2.same ee
    have x3 := x3.same ee
    have x4 := x4.same ee
    have e := e.trans ee
    clear ee
    have x5 := x5_
    clear x5_
    refine ⟨_, _, ⟨rfl, rfl⟩, ?_⟩
    subst hk
    refine seqi fun k hk => ?_
    walk_at "rd"
    refine mk1 fun a6 G6 ee x6_ => ?_
    have x1 := x1.same ee
    have x2 := x2.same ee
    have x3 := x3.same ee
    have x4 := x4.same ee
    have x5 := x5.same ee
    have e := e.trans ee
    clear ee
    have x6 := x6_
    clear x6_
    refine mk1 fun a7 G7 ee x7_ => ?_
    have x1 := x1.same ee
    have x2 := x2.same ee
    have x3 := x3.same ee
    have x4 := x4.same ee
    have x5 := x5.same ee
    have x6 := x6.same ee
    have e := e.trans ee
    clear ee
    have x7 := x7_
    clear x7_
    refine ⟨_, _, ⟨rfl, rfl⟩, ?_⟩
    subst hk
    refine seqi fun k hk => ?_
    walk_at "rd"
    refine ⟨_, _, x1, (G.ec _ (t22_mem (i := 13) (by decide))).xf, f_NoRule, _, rfl, (show 2 ≤ sizeLine by decide), fun p1 hp1 => ?_⟩
    have ee := same_new (o := .tup [.ref a1, v]) hp1
    have t1_ : (upd G7 p1 (.tup [.ref a1, v])) p1 = some (.tup [.ref a1, v]) := upd_same
    generalize upd G7 p1 (.tup [.ref a1, v]) = G8 at ee t1_ ⊢
    have x1 := x1.same ee
    have x2 := x2.same ee
    have x3 := x3.same ee
    have x4 := x4.same ee
    have x5 := x5.same ee
    have x6 := x6.same ee
    have x7 := x7.same ee
    have e := e.trans ee
    clear ee hp1
    have t1 := t1_
    clear t1_
    refine ⟨_, _, x2, (G.ec _ (t22_mem (i := 10) (by decide))).xf, f_NoKind, _, rfl, (show 2 ≤ sizeLine by decide), fun p2 hp2 => ?_⟩
    have ee := same_new (o := .tup [.ref a2, v]) hp2
    have t2_ : (upd G8 p2 (.tup [.ref a2, v])) p2 = some (.tup [.ref a2, v]) := upd_same
    generalize upd G8 p2 (.tup [.ref a2, v]) = G9 at ee t2_ ⊢
    have x1 := x1.same ee
    have x2 := x2.same ee
    have x3 := x3.same ee
    have x4 := x4.same ee
    have x5 := x5.same ee
    have x6 := x6.same ee
    have x7 := x7.same ee
    have t1 := ee _ _ t1
    have e := e.trans ee
    clear ee hp2
    have t2 := t2_
    clear t2_
    refine ⟨_, _, x3, (G.ec _ (t22_mem (i := 12) (by decide))).xf, f_NoNormal, _, rfl, (show 2 ≤ sizeLine by decide), fun p3 hp3 => ?_⟩
    have ee := same_new (o := .tup [.ref a3, v]) hp3
    have t3_ : (upd G9 p3 (.tup [.ref a3, v])) p3 = some (.tup [.ref a3, v]) := upd_same
    generalize upd G9 p3 (.tup [.ref a3, v]) = G10 at ee t3_ ⊢
    have x1 := x1.same ee
    have x2 := x2.same ee
    have x3 := x3.same ee
    have x4 := x4.same ee
    have x5 := x5.same ee
    have x6 := x6.same ee
    have x7 := x7.same ee
    have t1 := ee _ _ t1
    have t2 := ee _ _ t2
    have e := e.trans ee
    clear ee hp3
    have t3 := t3_
    clear t3_
    refine ⟨_, _, x4, (G.ec _ (t22_mem (i := 16) (by decide))).xf, f_NotHere, _, rfl, (show 2 ≤ sizeLine by decide), fun p4 hp4 => ?_⟩
    have ee := same_new (o := .tup [.ref a4, v]) hp4
    have t4_ : (upd G10 p4 (.tup [.ref a4, v])) p4 = some (.tup [.ref a4, v]) := upd_same
    generalize upd G10 p4 (.tup [.ref a4, v]) = G11 at ee t4_ ⊢
    have x1 := x1.same ee
    have x2 := x2.same ee
    have x3 := x3.same ee
    have x4 := x4.same ee
    have x5 := x5.same ee
    have x6 := x6.same ee
    have x7 := x7.same ee
    have t1 := ee _ _ t1
    have t2 := ee _ _ t2
    have t3 := ee _ _ t3
    have e := e.trans ee
    clear ee hp4
    have t4 := t4_
    clear t4_
    refine ⟨(show 4 ≤ sizeLine by decide), fun l1 hl1 => ?_⟩
    have ee := same_new (o := .lst [.ref p1, .ref p2, .ref p3, .ref p4]) hl1
    have z1_ : (upd G11 l1 (.lst [.ref p1, .ref p2, .ref p3, .ref p4])) l1 = some (.lst [.ref p1, .ref p2, .ref p3, .ref p4]) := upd_same
    generalize upd G11 l1 (.lst [.ref p1, .ref p2, .ref p3, .ref p4]) = G12 at ee z1_ ⊢
    have x1 := x1.same ee
    have x2 := x2.same ee
    have x3 := x3.same ee
    have x4 := x4.same ee
    have x5 := x5.same ee
    have x6 := x6.same ee
    have x7 := x7.same ee
    have t1 := ee _ _ t1
    have t2 := ee _ _ t2
    have t3 := ee _ _ t3
    have t4 := ee _ _ t4
    have e := e.trans ee
    clear ee hl1
    have z1 := z1_
    clear z1_
    subst hk
    walk_at "rd"
    refine ⟨_, _, x5, (G.ec _ (t22_mem (i := 14) (by decide))).xf, f_NoTag, _, rfl, (show 2 ≤ sizeLine by decide), fun p5 hp5 => ?_⟩
    have ee := same_new (o := .tup [.ref a5, v]) hp5
    have t5_ : (upd G12 p5 (.tup [.ref a5, v])) p5 = some (.tup [.ref a5, v]) := upd_same
    generalize upd G12 p5 (.tup [.ref a5, v]) = G13 at ee t5_ ⊢
    have x1 := x1.same ee
    have x2 := x2.same ee
    have x3 := x3.same ee
    have x4 := x4.same ee
    have x5 := x5.same ee
    have x6 := x6.same ee
    have x7 := x7.same ee
    have t1 := ee _ _ t1
    have t2 := ee _ _ t2
    have t3 := ee _ _ t3
    have t4 := ee _ _ t4
    have z1 := ee _ _ z1
    have e := e.trans ee
    clear ee hp5
    have t5 := t5_
    clear t5_
    refine ⟨_, _, x6, (G.ec _ (t22_mem (i := 2) (by decide))).xf, f_BadName, _, rfl, (show 2 ≤ sizeLine by decide), fun p6 hp6 => ?_⟩
    have ee := same_new (o := .tup [.ref a6, v]) hp6
    have t6_ : (upd G13 p6 (.tup [.ref a6, v])) p6 = some (.tup [.ref a6, v]) := upd_same
    generalize upd G13 p6 (.tup [.ref a6, v]) = G14 at ee t6_ ⊢
    have x1 := x1.same ee
    have x2 := x2.same ee
    have x3 := x3.same ee
    have x4 := x4.same ee
    have x5 := x5.same ee
    have x6 := x6.same ee
    have x7 := x7.same ee
    have t1 := ee _ _ t1
    have t2 := ee _ _ t2
    have t3 := ee _ _ t3
    have t4 := ee _ _ t4
    have z1 := ee _ _ z1
    have t5 := ee _ _ t5
    have e := e.trans ee
    clear ee hp6
    have t6 := t6_
    clear t6_
    refine ⟨_, _, x7, (G.ec _ (t22_mem (i := 11) (by decide))).xf, f_NoLoop, _, rfl, (show 2 ≤ sizeLine by decide), fun p7 hp7 => ?_⟩
    have ee := same_new (o := .tup [.ref a7, v]) hp7
    have t7_ : (upd G14 p7 (.tup [.ref a7, v])) p7 = some (.tup [.ref a7, v]) := upd_same
    generalize upd G14 p7 (.tup [.ref a7, v]) = G15 at ee t7_ ⊢
    have x1 := x1.same ee
    have x2 := x2.same ee
    have x3 := x3.same ee
    have x4 := x4.same ee
    have x5 := x5.same ee
    have x6 := x6.same ee
    have x7 := x7.same ee
    have t1 := ee _ _ t1
    have t2 := ee _ _ t2
    have t3 := ee _ _ t3
    have t4 := ee _ _ t4
    have z1 := ee _ _ z1
    have t5 := ee _ _ t5
    have t6 := ee _ _ t6
    have e := e.trans ee
    clear ee hp7
    have t7 := t7_
    clear t7_
    refine ⟨(show 3 ≤ sizeLine by decide), fun l2 hl2 => ?_⟩
    have ee := same_new (o := .lst [.ref p5, .ref p6, .ref p7]) hl2
    have z2_ : (upd G15 l2 (.lst [.ref p5, .ref p6, .ref p7])) l2 = some (.lst [.ref p5, .ref p6, .ref p7]) := upd_same
    generalize upd G15 l2 (.lst [.ref p5, .ref p6, .ref p7]) = G16 at ee z2_ ⊢
    have x1 := x1.same ee
    have x2 := x2.same ee
    have x3 := x3.same ee
    have x4 := x4.same ee
    have x5 := x5.same ee
    have x6 := x6.same ee
    have x7 := x7.same ee
    have t1 := ee _ _ t1
    have t2 := ee _ _ t2
    have t3 := ee _ _ t3
    have t4 := ee _ _ t4
    have z1 := ee _ _ z1
    have t5 := ee _ _ t5
    have t6 := ee _ _ t6
    have t7 := ee _ _ t7
    have e := e.trans ee
    clear ee hl2
    have z2 := z2_
    clear z2_
    refine ⟨_, z1, _, z2, (show 7 ≤ sizeLine by decide), fun l3 hl3 => ?_⟩
    have ee := same_new (o := .lst ([.ref p1, .ref p2, .ref p3, .ref p4] ++ [.ref p5, .ref p6, .ref p7])) hl3
    refine q l3 _ [p1, p2, p3, p4, p5, p6, p7] (e.trans ee) upd_same (by show 7 ≤ 10; decide) (fun p hp => ?_)
    simp only [List.mem_cons, List.not_mem_nil, or_false] at hp
    rcases hp with rfl | rfl | rfl | rfl | rfl | rfl | rfl
    · exact ⟨a1, _, _, ee _ _ t1, x1.same ee, t22_mem (by decide)⟩
    · exact ⟨a2, _, _, ee _ _ t2, x2.same ee, t22_mem (by decide)⟩
    · exact ⟨a3, _, _, ee _ _ t3, x3.same ee, t22_mem (by decide)⟩
    · exact ⟨a4, _, _, ee _ _ t4, x4.same ee, t22_mem (by decide)⟩
    · exact ⟨a5, _, _, ee _ _ t5, x5.same ee, t22_mem (by decide)⟩
    · exact ⟨a6, _, _, ee _ _ t6, x6.same ee, t22_mem (by decide)⟩
    · exact ⟨a7, _, _, ee _ _ t7, x7.same ee, t22_mem (by decide)⟩
end
end Fp

namespace Fp
open PySem PySem.Spec PyProof.Rows L2
local macro_rules | `(tactic| walk_at "rd") => `(tactic| simp only [cxK, cxKn, tRet, tRetN, rIntI, rIntB, rLenL, rListL, rListT, rAbs, tDisp, tPairs, tC, tCB, tCons, tNil, tSl, tVar, tNoPart, tPart, rSlL, tOp, tAsg, gName, tIfS, tDrop, tTest, tAnd, tOr, Evl.tCut, tNot, tB, rI0, rI, rIxL, rIxT, rIxD, tDGet, sDPut, tLst, tTup, tBM, tBM0, tPar, tPar3, rAppend, rPopAt, rPop, rExtend, rTupL, tCall, tNext, rAll, rOwnIn, rOwn2, rCat, lc_iL, lc_iT, lc_iK, lc_iR, lc_iE, fr_iL, fr_iT, fr_iR, tYes, rIn, rEq, rNe, gTup, gCons, gNil, wipe, tMeth, tFld, sFld, tMake, tProp, tIf, tAndV, tOrV, tNotV, tTru, rIsi, rSum, tRevL, rU, tUn, rIxS, iEnum, tMkE, tMkS, tFldE, if_true, if_false, Bool.false_eq_true, List.map_cons, List.map_nil, List.nil_append, List.append_nil, List.cons_append, List.getElem?_cons_zero, List.getElem?_cons_succ, Option.some.injEq, exists_and_left, exists_eq_left', exists_eq_left, List.cons.injEq, and_true, true_and, V.ref.injEq, V.int.injEq, V.str.injEq, V.bl.injEq, List.set_cons_zero, List.set_cons_succ])
section
variable {K : PySem.W.Frag} {P : Program} {w : World} {base : Heap} {mg : Str → Option Value} {FE C : Addr} {T : Nat → Addr}
theorem mkO {f : Str} {b : Addr} {xs : List V} {H : Hp} {R : Addr → Hp → Prop} (hb : H b = some (.lst xs)) (q : ∀ a l H', Same H H' → H' l = some (.lst xs) → ExV H' a C [(f, .ref l)] → R a H') : [V.ref b].length ≤ 1000 ∧ ∀ a, H a = none → spIo C f [.ref a, .ref b] (upd H a (exo a C none)) (fun u H2 => u = .non ∧ R a H2) C8.E0 :=
  ⟨by show 1 ≤ 1000; decide, fun a ha => ⟨a, b, xs, rfl, upd_same, by rw [upd_ne (ne_of_none hb ha)]; exact hb, fun H' l k g e => ⟨rfl, q a l H' (fun b o hb => k b o (by rw [upd_ne (ne_of_none hb ha)]; exact hb) (ne_of_none hb ha)) g e⟩⟩⟩
theorem mk2 {f g : Str} {v z : V} {H : Hp} {R : Addr → Hp → Prop} (q : ∀ a H', Same H H' → ExV H' a C [(g, z), (f, v)] → R a H') : [v, z].length ≤ 1000 ∧ ∀ a, H a = none → spI2 C f g [.ref a, v, z] (upd H a (exo a C none)) (fun u H2 => u = .non ∧ R a H2) C8.E0 :=
  ⟨by show 2 ≤ 1000; decide, fun a ha => ⟨a, v, z, rfl, upd_same, fun H' k e => ⟨rfl, q a H' (fun b o hb => k b o (by rw [upd_ne (ne_of_none hb ha)]; exact hb) (ne_of_none hb ha)) e⟩⟩⟩
theorem one_yes {i : Nat} {a : Addr} {fs : List (Str × V)} {H : Hp} {R : V → Hp → Prop} (G : EFam K FE (T22 T)) (hi : i < 22) (x : ExV H a (T i) fs) (r : R (.bl true) H) : rIsV K [.ref a, .ref (T i)] H fun x H1 => spIsOne (T22 T) [.ref a, x] H1 R E0 := by
  refine ⟨a, T i, fs, _, _, _, rfl, x, G.exc (t22_mem hi), .own _, G.kit hi hi, ?_⟩
  rw [decide_eq_true (rfl : i = i)]
  exact ⟨a, T i, fs, rfl, x, t22_mem hi, r⟩
def rowD (zs : List Str) : PyData := .list (zs.map PyData.str)
def fiveD (zs : List Str) (n : Int) : PyData := .list [rowD zs, rowD zs, rowD zs, .int n, .int (n + 1)]
theorem five_eq (zs : List Str) (n : Int) : PyData.eqv (fiveD zs n) (fiveD zs n) = true := by
  have h : PyData.eqv (rowD zs) (rowD zs) = true := by
    show PyData.eqvAll _ _ = true
    rw [eqv_strs, decide_eq_true rfl]
  show (PyData.eqv (rowD zs) (rowD zs) && (PyData.eqv (rowD zs) (rowD zs) && (PyData.eqv (rowD zs) (rowD zs) && ((n == n) && ((n + 1 == n + 1) && true))))) = true
  rw [h]
  simp
theorem five_ok {zs : List Str} {n : Int} (h : ∀ z ∈ zs, OkS z) : SeqAt.shaped (fiveD zs n) = true := by
  have hr : Shp 1 (rowD zs) := shp_lst (n := 0) fun d hd => by
    obtain ⟨z, hz, rfl⟩ := List.mem_map.mp hd
    exact ⟨h z hz, Nat.le_refl _⟩
  refine (shp_lst (n := 1) fun d hd => ?_ : Shp 2 (fiveD zs n)).ok (by decide)
  simp only [List.mem_cons, List.not_mem_nil, or_false] at hd
  rcases hd with rfl | rfl | rfl | rfl | rfl
  · exact hr
  · exact hr
  · exact hr
  · exact (shp_int _).mono (by decide)
  · exact (shp_int _).mono (by decide)
abbrev s__law_listed : Stmt := topS 36
theorem sc__law_listed : FnScope ["pen", "row", "one", "two", "three", "four", "five", "six", "seven", "eight", "last", "good"] ["pen"] (defScope s__law_listed) := ⟨rfl, rfl, rfl, by decide +kernel, rfl, by decide +kernel, by decide +kernel⟩
theorem ok_listed {f : Addr} {fd : FuncData} (F : Fun K "_law_listed" "_law_listed" s__law_listed f fd) (G : EFam K FE (T22 T)) (M : ∀ i, i < 22 → mg (cnS i) = some (.ref (T i)))
    (D_law_draw : Dn P w K mg base 1 "_law_draw" ["pen", "span"] spDraw) (D_law_names : Dn P w K mg base 3 "_law_names" ["pen", "many"] spNames) (D_law_is_one : Dn P w K mg base 2 "_law_is_one" ["e", "kind"] (spIsOne (T22 T)))
    (N_EmptySum : Xn P w K mg base 2 (T 9) ["self", "row"] (spIo (T 9) "row")) (f_EmptySum : PySem.W.findIn K (.ref (T 9)) "row" = some none)
    (N_NotAlike : Xn P w K mg base 2 (T 15) ["self", "row"] (spIo (T 15) "row")) (f_NotAlike : PySem.W.findIn K (.ref (T 15)) "row" = some none)
    (N_Barred : Xn P w K mg base 2 (T 7) ["self", "names"] (spIo (T 7) "names")) (f_Barred : PySem.W.findIn K (.ref (T 7)) "names" = some none)
    (N_NotClosed : Xn P w K mg base 1 (T 20) ["self", "left", "right"] (spI2 (T 20) "left" "right")) (f_NotClosed : PySem.W.findIn K (.ref (T 20)) "left" = some none) (g_NotClosed : PySem.W.findIn K (.ref (T 20)) "right" = some none)
    (S_OtherTags : Xs K P (T 19)) (S_Doubled : Xs K P (T 8)) (S_NotNeighbours : Xs K P (T 18)) (S_TooMany : Xs K P (T 21)) (S_NothingToUndo : Xs K P (T 17))
    (m_len : mg "len" = none) (m_list : mg "list" = none) (m_super : mg "super" = none) (m_isinstance : mg "isinstance" = none) : FnOk P w K mg base CX0 4 f fd ["pen"] spPenB := by
  refine F.ok sc__law_listed (fun vs H Q E h => ?_) (fun cdv A outer s H vs Q E hr h => ?_)
  · obtain ⟨p, c, t, rfl, _⟩ := h
    rfl
  · obtain ⟨p, c, t, rfl, hP, ht, q⟩ := h
    have hu64 := hr.units
    refine ⟨_, (pss_cons (ps_set (i := 1) sc__law_listed.nd rfl (.inl rfl) (pd D_law_names (hr.mono (by decide)) (by rfl) (pa_cons (pv 0) (pa_cons (pd D_law_draw (hr.mono (by decide)) (by rfl) (pa_cons (pv 0) (pa_cons pe_int pa_nil))) pa_nil))))
    (pss_cons (ps_par3 (i := 2) (j := 3) (l := 4) rfl sc__law_listed.nd rfl rfl rfl (by decide) (by decide) (by decide) rfl rfl rfl (pa_cons (pkE N_EmptySum (hr.mono (by decide)) (by rfl) (M 9 (by decide)) (pa_cons (pe_callTy (call_listK K) (by rfl) m_list (by decide +kernel) (pa_cons (pv 1) pa_nil)) pa_nil)) (pa_cons (pkE N_NotAlike (hr.mono (by decide)) (by rfl) (M 15 (by decide)) (pa_cons (pe_callTy (call_listK K) (by rfl) m_list (by decide +kernel) (pa_cons (pv 1) pa_nil)) pa_nil)) (pa_cons (pkE N_Barred (hr.mono (by decide)) (by rfl) (M 7 (by decide)) (pa_cons (pe_callTy (call_listK K) (by rfl) m_list (by decide +kernel) (pa_cons (pv 1) pa_nil)) pa_nil)) pa_nil))) rfl)
    (pss_cons (ps_par3 (i := 5) (j := 6) (l := 7) rfl sc__law_listed.nd rfl rfl rfl (by decide) (by decide) (by decide) rfl rfl rfl (pa_cons (pkS S_OtherTags (hr.mono (by decide)) (by rfl) (M 19 (by decide)) m_super) (pa_cons (pkS S_Doubled (hr.mono (by decide)) (by rfl) (M 8 (by decide)) m_super) (pa_cons (pkS S_NotNeighbours (hr.mono (by decide)) (by rfl) (M 18 (by decide)) m_super) pa_nil))) rfl)
    (pss_cons (ps_par (i := 8) (j := 9) rfl sc__law_listed.nd rfl rfl (by decide) rfl rfl (pa_cons (pkS S_TooMany (hr.mono (by decide)) (by rfl) (M 21 (by decide)) m_super) (pa_cons (pkS S_NothingToUndo (hr.mono (by decide)) (by rfl) (M 17 (by decide)) m_super) pa_nil)) rfl)
    (pss_cons (ps_set (i := 10) sc__law_listed.nd rfl (.inl rfl) (pkE N_NotClosed (hr.mono (by decide)) (by rfl) (M 20 (by decide)) (pa_cons (pe_callB (call_lenK K) (by rfl) m_len PySem.boot_len (pa_cons (pv 1) pa_nil)) (pa_cons (pe_op op_add (pe_callB (call_lenK K) (by rfl) m_len PySem.boot_len (pa_cons (pv 1) pa_nil)) pe_int) pa_nil))))
    (pss_cons (ps_if (pt_cmpR (op_neDK K hu64) (pe_lst (pa_cons (pe_fldE (K := K) (pv 2)) (pa_cons (pe_fldE (K := K) (pv 3)) (pa_cons (pe_fldE (K := K) (pv 4)) (pa_cons (pe_fldE (K := K) (pv 10)) (pa_cons (pe_fldE (K := K) (pv 10)) pa_nil)))))) (pe_lst (pa_cons (pv 1) (pa_cons (pv 1) (pa_cons (pv 1) (pa_cons (pe_callB (call_lenK K) (by rfl) m_len PySem.boot_len (pa_cons (pv 1) pa_nil)) (pa_cons (pe_op op_add (pe_callB (call_lenK K) (by rfl) m_len PySem.boot_len (pa_cons (pv 1) pa_nil)) pe_int) pa_nil)))))) (nomark _))
      (pss_one (ps_ret pe_bl))
      pss_nil)
    (pss_cons (ps_set (i := 11) sc__law_listed.nd rfl (.inl rfl) (pe_and (pd D_law_is_one (hr.mono (by decide)) (by rfl) (pa_cons (pv 2) (pa_cons (pe_callB (call_isV (K := K)) (by rfl) m_isinstance (by decide +kernel) (pa_cons (pv 2) (pa_cons (pe_glob rfl (M 9 (by decide)) (v := .ref (T 9)) rfl) pa_nil))) pa_nil))) (pe_one (pd D_law_is_one (hr.mono (by decide)) (by rfl) (pa_cons (pv 3) (pa_cons (pe_callB (call_isV (K := K)) (by rfl) m_isinstance (by decide +kernel) (pa_cons (pv 3) (pa_cons (pe_glob rfl (M 15 (by decide)) (v := .ref (T 15)) rfl) pa_nil))) pa_nil))))))
    (pss_cons (ps_set (i := 11) sc__law_listed.nd rfl (.inl rfl) (pe_and (pv 11) (pe_one (pd D_law_is_one (hr.mono (by decide)) (by rfl) (pa_cons (pv 4) (pa_cons (pe_callB (call_isV (K := K)) (by rfl) m_isinstance (by decide +kernel) (pa_cons (pv 4) (pa_cons (pe_glob rfl (M 7 (by decide)) (v := .ref (T 7)) rfl) pa_nil))) pa_nil))))))
    (pss_cons (ps_set (i := 11) sc__law_listed.nd rfl (.inl rfl) (pe_and (pv 11) (pe_one (pd D_law_is_one (hr.mono (by decide)) (by rfl) (pa_cons (pv 5) (pa_cons (pe_callB (call_isV (K := K)) (by rfl) m_isinstance (by decide +kernel) (pa_cons (pv 5) (pa_cons (pe_glob rfl (M 19 (by decide)) (v := .ref (T 19)) rfl) pa_nil))) pa_nil))))))
    (pss_cons (ps_set (i := 11) sc__law_listed.nd rfl (.inl rfl) (pe_and (pv 11) (pe_one (pd D_law_is_one (hr.mono (by decide)) (by rfl) (pa_cons (pv 6) (pa_cons (pe_callB (call_isV (K := K)) (by rfl) m_isinstance (by decide +kernel) (pa_cons (pv 6) (pa_cons (pe_glob rfl (M 8 (by decide)) (v := .ref (T 8)) rfl) pa_nil))) pa_nil))))))
    (pss_cons (ps_set (i := 11) sc__law_listed.nd rfl (.inl rfl) (pe_and (pv 11) (pe_one (pd D_law_is_one (hr.mono (by decide)) (by rfl) (pa_cons (pv 7) (pa_cons (pe_callB (call_isV (K := K)) (by rfl) m_isinstance (by decide +kernel) (pa_cons (pv 7) (pa_cons (pe_glob rfl (M 18 (by decide)) (v := .ref (T 18)) rfl) pa_nil))) pa_nil))))))
    (pss_cons (ps_set (i := 11) sc__law_listed.nd rfl (.inl rfl) (pe_and (pv 11) (pe_and (pd D_law_is_one (hr.mono (by decide)) (by rfl) (pa_cons (pv 8) (pa_cons (pe_callB (call_isV (K := K)) (by rfl) m_isinstance (by decide +kernel) (pa_cons (pv 8) (pa_cons (pe_glob rfl (M 21 (by decide)) (v := .ref (T 21)) rfl) pa_nil))) pa_nil))) (pe_one (pd D_law_is_one (hr.mono (by decide)) (by rfl) (pa_cons (pv 10) (pa_cons (pe_callB (call_isV (K := K)) (by rfl) m_isinstance (by decide +kernel) (pa_cons (pv 10) (pa_cons (pe_glob rfl (M 20 (by decide)) (v := .ref (T 20)) rfl) pa_nil))) pa_nil)))))))
    (pss_one (ps_ret (pe_and (pv 11) (pe_one (pd D_law_is_one (hr.mono (by decide)) (by rfl) (pa_cons (pv 9) (pa_cons (pe_callB (call_isV (K := K)) (by rfl) m_isinstance (by decide +kernel) (pa_cons (pv 9) (pa_cons (pe_glob rfl (M 17 (by decide)) (v := .ref (T 17)) rfl) pa_nil))) pa_nil))))))))))))))))))), ?_⟩
    show tSeq _ _ _ [some (.ref p), none, none, none, none, none, none, none, none, none, none, none] H
    refine seqi fun k hk => ?_
    walk_at "rd"
    refine ⟨p, c, 6, t, rfl, hP, by omega, by decide, by decide, fun r H1 r0 r1 P1 b1 => ?_⟩
    obtain ⟨m, rfl⟩ : ∃ m : Nat, r = m := ⟨r.toNat, by omega⟩
    refine ⟨p, c, m, t + 1, rfl, P1, by omega, by omega, fun ra H2 zs _ zlen _ zok dr P2 b2 => ?_⟩
    obtain ⟨ra', xs, ea, hra, hxs⟩ := dr.list
    cases ea
    have := hxs.strs
    subst this
    have b2 := b1.trans b2
    clear hP P1 b1 dr hxs
    generalize hys : zs.map V.str = ys at hra
    have e := Same.refl H2
    subst hk
    refine seqi fun k hk => ?_
    walk_at "rd"
    refine ⟨_, .inl (.inl hra), fun l1 hl1 => ?_⟩
    have ee := same_new (o := .lst ys) hl1
    have y1_ : (upd H2 l1 (.lst ys)) l1 = some (.lst ys) := upd_same
    generalize upd H2 l1 (.lst ys) = G1 at ee y1_ ⊢
    replace hra := ee _ _ hra
    replace e := e.trans ee
    clear ee hl1
    have y1 := y1_
    clear y1_
    refine mkO y1 fun a1 m1 G2 ee g1_ x1_ => ?_
    replace hra := ee _ _ hra
    replace y1 := ee _ _ y1
    replace e := e.trans ee
    clear ee
    have g1 := g1_
    have x1 := x1_
    clear g1_ x1_
    refine ⟨_, .inl (.inl hra), fun l2 hl2 => ?_⟩
    have ee := same_new (o := .lst ys) hl2
    have y2_ : (upd G2 l2 (.lst ys)) l2 = some (.lst ys) := upd_same
    generalize upd G2 l2 (.lst ys) = G3 at ee y2_ ⊢
    replace x1 := x1.same ee
    replace hra := ee _ _ hra
    replace y1 := ee _ _ y1
    replace g1 := ee _ _ g1
    replace e := e.trans ee
    clear ee hl2
    have y2 := y2_
    clear y2_
    refine mkO y2 fun a2 m2 G4 ee g2_ x2_ => ?_
    replace x1 := x1.same ee
    replace hra := ee _ _ hra
    replace y1 := ee _ _ y1
    replace g1 := ee _ _ g1
    replace y2 := ee _ _ y2
    replace e := e.trans ee
    clear ee
    have g2 := g2_
    have x2 := x2_
    clear g2_ x2_
    refine ⟨_, .inl (.inl hra), fun l3 hl3 => ?_⟩
    have ee := same_new (o := .lst ys) hl3
    have y3_ : (upd G4 l3 (.lst ys)) l3 = some (.lst ys) := upd_same
    generalize upd G4 l3 (.lst ys) = G5 at ee y3_ ⊢
    replace x1 := x1.same ee
    replace x2 := x2.same ee
    replace hra := ee _ _ hra
    replace y1 := ee _ _ y1
    replace g1 := ee _ _ g1
    replace y2 := ee _ _ y2
    replace g2 := ee _ _ g2
    replace e := e.trans ee
    clear ee hl3
    have y3 := y3_
    clear y3_
    refine mkO y3 fun a3 m3 G6 ee g3_ x3_ => ?_
    replace x1 := x1.same ee
    replace x2 := x2.same ee
    replace hra := ee _ _ hra
    replace y1 := ee _ _ y1
    replace g1 := ee _ _ g1
    replace y2 := ee _ _ y2
    replace g2 := ee _ _ g2
    replace y3 := ee _ _ y3
    replace e := e.trans ee
    clear ee
    have g3 := g3_
    have x3 := x3_
    clear g3_ x3_
    refine ⟨_, _, _, ⟨rfl, rfl, rfl⟩, ?_⟩
    subst hk
    refine seqi fun k hk => ?_
    walk_at "rd"
    refine fun a4 ha4 => ?_
    have ee := same_new (o := exo a4 (T 19) none) ha4
    have x4_ : ExV (upd G6 a4 (exo a4 (T 19) none)) a4 (T 19) [] := .inl ⟨rfl, upd_same⟩
    generalize upd G6 a4 (exo a4 (T 19) none) = G7 at ee x4_ ⊢
    replace x1 := x1.same ee
    replace x2 := x2.same ee
    replace x3 := x3.same ee
    replace hra := ee _ _ hra
    replace y1 := ee _ _ y1
    replace g1 := ee _ _ g1
    replace y2 := ee _ _ y2
    replace g2 := ee _ _ g2
    replace y3 := ee _ _ y3
    replace g3 := ee _ _ g3
    replace e := e.trans ee
    clear ee ha4
    have x4 := x4_
    clear x4_
    refine fun a5 ha5 => ?_
    have ee := same_new (o := exo a5 (T 8) none) ha5
    have x5_ : ExV (upd G7 a5 (exo a5 (T 8) none)) a5 (T 8) [] := .inl ⟨rfl, upd_same⟩
    generalize upd G7 a5 (exo a5 (T 8) none) = G8 at ee x5_ ⊢
    replace x1 := x1.same ee
    replace x2 := x2.same ee
    replace x3 := x3.same ee
    replace x4 := x4.same ee
    replace hra := ee _ _ hra
    replace y1 := ee _ _ y1
    replace g1 := ee _ _ g1
    replace y2 := ee _ _ y2
    replace g2 := ee _ _ g2
    replace y3 := ee _ _ y3
    replace g3 := ee _ _ g3
    replace e := e.trans ee
    clear ee ha5
    have x5 := x5_
    clear x5_
    refine fun a6 ha6 => ?_
    have ee := same_new (o := exo a6 (T 18) none) ha6
    have x6_ : ExV (upd G8 a6 (exo a6 (T 18) none)) a6 (T 18) [] := .inl ⟨rfl, upd_same⟩
    generalize upd G8 a6 (exo a6 (T 18) none) = G9 at ee x6_ ⊢
    replace x1 := x1.same ee
    replace x2 := x2.same ee
    replace x3 := x3.same ee
    replace x4 := x4.same ee
    replace x5 := x5.same ee
    replace hra := ee _ _ hra
    replace y1 := ee _ _ y1
    replace g1 := ee _ _ g1
    replace y2 := ee _ _ y2
    replace g2 := ee _ _ g2
    replace y3 := ee _ _ y3
    replace g3 := ee _ _ g3
    replace e := e.trans ee
    clear ee ha6
    have x6 := x6_
    clear x6_
    refine ⟨_, _, _, ⟨rfl, rfl, rfl⟩, ?_⟩
    subst hk
    refine seqi fun k hk => ?_
    walk_at "rd"
    refine fun a7 ha7 => ?_
    have ee := same_new (o := exo a7 (T 21) none) ha7
    have x7_ : ExV (upd G9 a7 (exo a7 (T 21) none)) a7 (T 21) [] := .inl ⟨rfl, upd_same⟩
    generalize upd G9 a7 (exo a7 (T 21) none) = G10 at ee x7_ ⊢
    replace x1 := x1.same ee
    replace x2 := x2.same ee
    replace x3 := x3.same ee
    replace x4 := x4.same ee
    replace x5 := x5.same ee
    replace x6 := x6.same ee
    replace hra := ee _ _ hra
    replace y1 := ee _ _ y1
    replace g1 := ee _ _ g1
    replace y2 := ee _ _ y2
    replace g2 := ee _ _ g2
    replace y3 := ee _ _ y3
    replace g3 := ee _ _ g3
    replace e := e.trans ee
    clear ee ha7
    have x7 := x7_
    clear x7_
    refine fun a8 ha8 => ?_
    have ee := same_new (o := exo a8 (T 17) none) ha8
    have x8_ : ExV (upd G10 a8 (exo a8 (T 17) none)) a8 (T 17) [] := .inl ⟨rfl, upd_same⟩
    generalize upd G10 a8 (exo a8 (T 17) none) = G11 at ee x8_ ⊢
    replace x1 := x1.same ee
    replace x2 := x2.same ee
    replace x3 := x3.same ee
    replace x4 := x4.same ee
    replace x5 := x5.same ee
    replace x6 := x6.same ee
    replace x7 := x7.same ee
    replace hra := ee _ _ hra
    replace y1 := ee _ _ y1
    replace g1 := ee _ _ g1
    replace y2 := ee _ _ y2
    replace g2 := ee _ _ g2
    replace y3 := ee _ _ y3
    replace g3 := ee _ _ g3
    replace e := e.trans ee
    clear ee ha8
    have x8 := x8_
    clear x8_
    refine ⟨_, _, ⟨rfl, rfl⟩, ?_⟩
    subst hk
    refine seqi fun k hk => ?_
    walk_at "rd"
    refine ⟨_, .inl (.inl hra), _, .inl (.inl hra), ?_⟩
    refine mk2 fun a9 G12 ee x9_ => ?_
    replace x1 := x1.same ee
    replace x2 := x2.same ee
    replace x3 := x3.same ee
    replace x4 := x4.same ee
    replace x5 := x5.same ee
    replace x6 := x6.same ee
    replace x7 := x7.same ee
    replace x8 := x8.same ee
    replace hra := ee _ _ hra
    replace y1 := ee _ _ y1
    replace g1 := ee _ _ g1
    replace y2 := ee _ _ y2
    replace g2 := ee _ _ g2
    replace y3 := ee _ _ y3
    replace g3 := ee _ _ g3
    replace e := e.trans ee
    clear ee
    have x9 := x9_
    clear x9_
    subst hk
    refine seqi fun k hk => ?_
    walk_at "rd"
    refine ⟨_, _, x1, (G.ec _ (t22_mem (i := 9) (by decide))).xf, f_EmptySum, _, rfl, ?_⟩
    refine ⟨_, _, x2, (G.ec _ (t22_mem (i := 15) (by decide))).xf, f_NotAlike, _, rfl, ?_⟩
    refine ⟨_, _, x3, (G.ec _ (t22_mem (i := 7) (by decide))).xf, f_Barred, _, rfl, ?_⟩
    refine ⟨_, _, x9, (G.ec _ (t22_mem (i := 20) (by decide))).xf, f_NotClosed, _, rfl, ?_⟩
    refine ⟨_, _, x9, (G.ec _ (t22_mem (i := 20) (by decide))).xf, g_NotClosed, _, rfl, ?_⟩
    refine ⟨(show 5 ≤ sizeLine by decide), fun q1 hq1 => ?_⟩
    have ee := same_new (o := .lst [.ref m1, .ref m2, .ref m3, .int ys.length, .int (ys.length + 1)]) hq1
    have w1_ : (upd G12 q1 (.lst [.ref m1, .ref m2, .ref m3, .int ys.length, .int (ys.length + 1)])) q1 = some (.lst [.ref m1, .ref m2, .ref m3, .int ys.length, .int (ys.length + 1)]) := upd_same
    generalize upd G12 q1 (.lst [.ref m1, .ref m2, .ref m3, .int ys.length, .int (ys.length + 1)]) = G13 at ee w1_ ⊢
    replace x1 := x1.same ee
    replace x2 := x2.same ee
    replace x3 := x3.same ee
    replace x4 := x4.same ee
    replace x5 := x5.same ee
    replace x6 := x6.same ee
    replace x7 := x7.same ee
    replace x8 := x8.same ee
    replace x9 := x9.same ee
    replace hra := ee _ _ hra
    replace y1 := ee _ _ y1
    replace g1 := ee _ _ g1
    replace y2 := ee _ _ y2
    replace g2 := ee _ _ g2
    replace y3 := ee _ _ y3
    replace g3 := ee _ _ g3
    replace e := e.trans ee
    clear ee hq1
    have w1 := w1_
    clear w1_
    refine ⟨_, .inl (.inl hra), _, .inl (.inl hra), (show 5 ≤ sizeLine by decide), fun q2 hq2 => ?_⟩
    have ee := same_new (o := .lst [.ref ra, .ref ra, .ref ra, .int ys.length, .int (ys.length + 1)]) hq2
    have w2_ : (upd G13 q2 (.lst [.ref ra, .ref ra, .ref ra, .int ys.length, .int (ys.length + 1)])) q2 = some (.lst [.ref ra, .ref ra, .ref ra, .int ys.length, .int (ys.length + 1)]) := upd_same
    generalize upd G13 q2 (.lst [.ref ra, .ref ra, .ref ra, .int ys.length, .int (ys.length + 1)]) = G14 at ee w2_ ⊢
    replace x1 := x1.same ee
    replace x2 := x2.same ee
    replace x3 := x3.same ee
    replace x4 := x4.same ee
    replace x5 := x5.same ee
    replace x6 := x6.same ee
    replace x7 := x7.same ee
    replace x8 := x8.same ee
    replace x9 := x9.same ee
    replace hra := ee _ _ hra
    replace y1 := ee _ _ y1
    replace g1 := ee _ _ g1
    replace y2 := ee _ _ y2
    replace g2 := ee _ _ g2
    replace y3 := ee _ _ y3
    replace g3 := ee _ _ g3
    replace w1 := ee _ _ w1
    replace e := e.trans ee
    clear ee hq2
    have w2 := w2_
    clear w2_
    subst hys
    refine ⟨fiveD zs ((zs.map V.str).length : Nat), fiveD zs ((zs.map V.str).length : Nat), ?_, ?_, five_ok zok, five_ok zok, ?_⟩
    · exact Dt.dp (.lst w1 (.cons (.lst g1 (dts_strs zs)) (.cons (.lst g2 (dts_strs zs)) (.cons (.lst g3 (dts_strs zs)) (.cons (.int _) (.cons (.int _) .nil))))))
    · exact Dt.dp (.lst w2 (.cons (.lst hra (dts_strs zs)) (.cons (.lst hra (dts_strs zs)) (.cons (.lst hra (dts_strs zs)) (.cons (.int _) (.cons (.int _) .nil))))))
    rw [five_eq]
    refine ⟨_, rfl, iteF ?_⟩
    subst hk
    refine seqi fun k hk => ?_
    walk_at "rd"
    refine one_yes G (by decide) x1 ⟨_, rfl, iteT ?_⟩
    refine one_yes G (by decide) x2 ?_
    subst hk
    refine seqi fun k hk => ?_
    walk_at "rd"
    refine one_yes G (by decide) x3 ?_
    subst hk
    refine seqi fun k hk => ?_
    walk_at "rd"
    refine one_yes G (by decide) x4 ?_
    subst hk
    refine seqi fun k hk => ?_
    walk_at "rd"
    refine one_yes G (by decide) x5 ?_
    subst hk
    refine seqi fun k hk => ?_
    walk_at "rd"
    refine one_yes G (by decide) x6 ?_
    subst hk
    refine seqi fun k hk => ?_
    walk_at "rd"
    refine one_yes G (by decide) x7 ⟨_, rfl, iteT ?_⟩
    refine one_yes G (by decide) x9 ?_
    subst hk
    walk_at "rd"
    refine one_yes G (by decide) x8 ?_
    exact q _ ((P2.same e).mono (by omega)) (b2.trans (.of e))
end
end Fp

namespace Fp
open PySem PySem.Spec PyProof.Rows L2
local macro_rules | `(tactic| walk_at "rd") => `(tactic| simp only [cxK, cxKn, tRet, tRetN, rIntI, rIntB, rLenL, rListL, rListT, rAbs, tDisp, tPairs, tC, tCB, tCons, tNil, tSl, tVar, tNoPart, tPart, rSlL, tOp, tAsg, gName, tIfS, tDrop, tTest, tAnd, tOr, Evl.tCut, tNot, tB, rI0, rI, rIxL, rIxT, rIxD, tDGet, sDPut, tLst, tTup, tBM, tBM0, tPar, tPar3, rAppend, rPopAt, rPop, rExtend, rTupL, tCall, tNext, rAll, rOwnIn, rOwn2, rCat, lc_iL, lc_iT, lc_iK, lc_iR, lc_iE, fr_iL, fr_iT, fr_iR, tYes, rIn, rEq, rNe, gTup, gCons, gNil, wipe, tMeth, tFld, sFld, tMake, tProp, tIf, tAndV, tOrV, tNotV, tTru, rIsi, rSum, tRevL, rU, tUn, rIxS, iEnum, tMkE, tMkS, tFldE, if_true, if_false, Bool.false_eq_true, List.map_cons, List.map_nil, List.nil_append, List.append_nil, List.cons_append, List.getElem?_cons_zero, List.getElem?_cons_succ, Option.some.injEq, exists_and_left, exists_eq_left', exists_eq_left, List.cons.injEq, and_true, true_and, V.ref.injEq, V.int.injEq, V.str.injEq, V.bl.injEq, List.set_cons_zero, List.set_cons_succ])
section
variable {K : PySem.W.Frag} {P : Program} {w : World} {base : Heap} {mg : Str → Option Value} {FE C : Addr} {T : Nat → Addr}
theorem iteF' {b : Bool} {A B : Prop} (hb : b = false) (h : B) : if b = true then A else B := by
  subst hb
  exact iteF h
abbrev s_law : Stmt := topS 37
theorem sc_law : FnScope ["script", "pen", "turn", "number", "text", "e", "field", "due"] ["script"] (defScope s_law) := ⟨rfl, rfl, rfl, by decide +kernel, rfl, by decide +kernel, by decide +kernel⟩
theorem ok_law {f : Addr} {fd : FuncData} (F : Fun K "law" "law" s_law f fd) (G : EFam K FE (T22 T))
    (D_law_pen : Dn P w K mg base 1 "_law_pen" ["script"] (spPen K)) (D_law_draw : Dn P w K mg base 1 "_law_draw" ["pen", "span"] spDraw) (D_law_names : Dn P w K mg base 3 "_law_names" ["pen", "many"] spNames) (D_law_is_one : Dn P w K mg base 2 "_law_is_one" ["e", "kind"] (spIsOne (T22 T)))
    (D_law_numbered : Dn P w K mg base 3 "_law_numbered" ["number"] (spErrs (T22 T))) (D_law_named : Dn P w K mg base 3 "_law_named" ["text"] (spErrs (T22 T))) (D_law_listed : Dn P w K mg base 4 "_law_listed" ["pen"] spPenB)
    (m_range : mg "range" = none) (m_isinstance : mg "isinstance" = none) (m_int : mg "int" = none) : FnOk P w K mg base CX0 5 f fd ["script"] (spLaw K) := by
  refine F.ok sc_law (fun vs H Q E h => ?_) (fun cdv A outer s H vs Q E hr h => ?_)
  · obtain ⟨a, ns, rfl, _⟩ := h
    rfl
  · obtain ⟨a, ns, rfl, hS, hlen, q⟩ := h
    refine ⟨_, (pss_cons (ps_set (i := 1) sc_law.nd rfl (.inl rfl) (pd D_law_pen (hr.mono (by decide)) (by rfl) (pa_cons (pv 0) pa_nil)))
    (pss_cons (ps_for PassesOwn.never rfl (pi_range1 rfl m_range (pa_cons pe_int pa_nil)) (pg_name (i := 2) sc_law.nd rfl (.inl rfl))
      (pss_cons (ps_par (i := 3) (j := 4) rfl sc_law.nd rfl rfl (by decide) rfl rfl (pa_cons (pe_op op_sub (pd D_law_draw (hr.mono (by decide)) (by rfl) (pa_cons (pv 1) (pa_cons (pe_op op_pow pe_int pe_int) pa_nil))) (pv 2)) (pa_cons (pe_ix (ix_listK K) (pd D_law_names (hr.mono (by decide)) (by rfl) (pa_cons (pv 1) (pa_cons pe_int pa_nil))) pe_int (fun _ _ => rfl)) pa_nil)) rfl)
        (pss_cons (ps_for PassesOwn.never rfl (pi_listK K (pe_op op_cat (pd D_law_numbered (hr.mono (by decide)) (by rfl) (pa_cons (pv 3) pa_nil)) (pd D_law_named (hr.mono (by decide)) (by rfl) (pa_cons (pv 4) pa_nil)))) (pg_tupK K (pg_tup (n := 2) rfl (pgs_cons (pg_name (i := 5) sc_law.nd rfl (.inl rfl)) (pgs_cons (pg_name (i := 6) sc_law.nd rfl (.inl rfl)) pgs_nil))))
      (pss_cons (ps_set (i := 7) sc_law.nd rfl (.inl rfl) (pe_ifExp (pt_val (pe_callB (call_isi1 (K := K)) (by rfl) m_isinstance (by decide +kernel) (pa_cons (pv 6) (pa_cons (pe_bltn (v := .ty "int") rfl m_int (by decide +kernel) rfl) pa_nil)))) (pv 3) (pv 4)))
        (pss_one (ps_if (PW.pt (pw_or (pt_cmpR op_ne (pv 6) (pv 7) (nomark _)) (pw_or1 (pt_not (pt_val (pd D_law_is_one (hr.mono (by decide)) (by rfl) (pa_cons (pv 5) (pa_cons pe_bl pa_nil))))))))
      (pss_one (ps_ret pe_bl))
      pss_nil))))
        (pss_one (ps_if (pt_not (pt_val (pd D_law_listed (hr.mono (by decide)) (by rfl) (pa_cons (pv 1) pa_nil))))
      (pss_one (ps_ret pe_bl))
      pss_nil)))))
    (pss_one (ps_ret pe_bl)))), ?_⟩
    show tSeq _ _ _ [some (.ref a), none, none, none, none, none, none, none] H
    refine seqi fun k0 hk0 => ?_
    walk_at "rd"
    refine ⟨a, ns, rfl, hS, hlen, fun H1 p c np e1 P1 => ?_⟩
    subst hk0
    refine seqi fun k0 hk0 => ?_
    walk_at "rd"
    refine ⟨by decide, by decide, ?_⟩
    refine forg_by (jseq_rng 0 3) (fun i σ' H' => ∃ y2 y3 y4 y5 y6 y7, σ' = [some (.ref a), some (.ref p), y2, y3, y4, y5, y6, y7] ∧ PenOk H' p c (600 * i))
      ⟨none, none, none, none, none, none, rfl, P1⟩ (fun i σ' H' _ h => trivial) (fun i x σ' H4 hx h => ?_) (fun σ' H' h => ?_)
    · obtain ⟨y2, y3, y4, y5, y6, y7, rfl, P4⟩ := h
      have hi : i < 3 := by
        have := (List.getElem?_eq_some_iff.mp hx).1
        rw [rngV_len] at this
        exact this
      rw [rngV_at hi] at hx
      cases hx
      walk_at "rd"
      refine seqi fun k1 hk1 => ?_
      walk_at "rd"
      refine ⟨⟨by decide, by decide, by decide⟩, ?_⟩
      refine ⟨p, c, 10 ^ 60, 600 * i, rfl, P4, by omega, by decide, by decide +kernel, fun r H5 r0 r1 P5 b5 => ⟨r, rfl, ?_⟩⟩
      refine ⟨p, c, 1, 600 * i + 1, rfl, P5, by omega, by omega, fun ra H6 zs zne zlen zl zok dr P6 b6 => ⟨ra, rfl, ?_⟩⟩
      obtain ⟨ra', xs, ea, hra, hxs⟩ := dr.list
      cases ea
      have := hxs.strs
      subst this
      obtain ⟨z, zr, rfl⟩ : ∃ z zr, zs = z :: zr := by
        cases zs with
        | nil => exact absurd rfl (zne (by decide))
        | cons z zr => exact ⟨z, zr, rfl⟩
      refine ⟨_, .inl (.inl hra), .str z, atI_nat (j := 0) rfl, _, _, ⟨rfl, rfl⟩, ?_⟩
      generalize r - (0 + (i : Int)) = nu
      clear hra dr hxs zne zlen zl zok P4 P5
      subst hk1
      refine seqi fun k1 hk1 => ?_
      walk_at "rd"
      refine ⟨_, rfl, fun l1 H7 ps1 e7 g7 n7 t7 => ?_⟩
      refine ⟨_, rfl, fun l2 H8 ps2 e8 g8 n8 t8 => ?_⟩
      refine ⟨_, rfl, _, rfl, _, e8 _ _ g7, _, g8, ?_, fun l3 hl3 => ?_⟩
      · rw [List.length_map, List.length_map]
        exact Nat.le_of_lt (small1000 (by omega))
      have e9 : Same H8 (upd H8 l3 (.lst (ps1.map V.ref ++ ps2.map V.ref))) := same_new hl3
      have g9 : (upd H8 l3 (.lst (ps1.map V.ref ++ ps2.map V.ref))) l3 = some (.lst ((ps1 ++ ps2).map V.ref)) := by rw [upd_same, List.map_append]
      generalize upd H8 l3 (.lst (ps1.map V.ref ++ ps2.map V.ref)) = H9 at e9 g9
      have t9 : ∀ pp ∈ ps1 ++ ps2, ∃ x C fs v, H9 pp = some (.tup [.ref x, v]) ∧ ExV H9 x C fs ∧ C ∈ T22 T ∧ (v = .int nu ∨ v = .str z) := by
        intro pp hpp
        rcases List.mem_append.mp hpp with h | h
        · obtain ⟨x, C, fs, q1, q2, q3⟩ := t7 pp h
          exact ⟨x, C, fs, _, e9 _ _ (e8 _ _ q1), (q2.same e8).same e9, q3, .inl rfl⟩
        · obtain ⟨x, C, fs, q1, q2, q3⟩ := t8 pp h
          exact ⟨x, C, fs, _, e9 _ _ q1, q2.same e9, q3, .inr rfl⟩
      have P9 := ((P6.same e7).same e8).same e9
      clear t7 t8 g7 g8 e9 e8 e7 P6 hl3 b5 b6
      refine ⟨⟨_, .inl (.inl g9)⟩, ?_⟩
      refine forg_by (jseq_list K l3 ((ps1 ++ ps2).map V.ref)) (fun j σ' H' => ∃ z5 z6 z7, σ' = [some (.ref a), some (.ref p), some (.int (0 + (i : Int))), some (.int nu), some (.str z), z5, z6, z7] ∧ H' = H9)
        ⟨_, _, _, rfl, rfl⟩ (fun j σ' H' _ h => ?_) (fun j x σ' H' hx h => ?_) (fun σ' H' h => ?_)
      · obtain ⟨_, _, _, _, rfl⟩ := h
        exact .inl (.inl g9)
      · obtain ⟨z5, z6, z7, rfl, rfl⟩ := h
        obtain ⟨pp, hpp, rfl⟩ := List.mem_map.mp (List.mem_of_getElem? hx)
        obtain ⟨xe, C, fs, v, q1, q2, q3, q4⟩ := t9 pp hpp
        walk_at "rd"
        refine ⟨_, .inl (.inl q1), rfl, _, _, rfl, _, _, rfl, rfl, ?_⟩
        refine seqi fun k2 hk2 => ?_
        walk_at "rd"
        rcases q4 with rfl | rfl
        · refine ⟨_, _, ⟨rfl, rfl⟩, .type "int", .type "int", .ty _, .base (.int _), true, kit_ty (by decide +kernel), iteT ?_⟩
          subst hk2
          walk_at "rd"
          refine ⟨rfl, iteF' (by decide) ?_⟩
          exact ⟨xe, C, fs, rfl, q2, q3, _, rfl, iteF' (by decide) ⟨_, _, _, ⟨rfl, rfl, rfl⟩, rfl⟩⟩
        · refine ⟨_, _, ⟨rfl, rfl⟩, .type "str", .type "int", .ty _, .base (.str _), false, kit_ty (by decide +kernel), iteF ?_⟩
          subst hk2
          walk_at "rd"
          refine ⟨rfl, iteF' (by decide) ?_⟩
          exact ⟨xe, C, fs, rfl, q2, q3, _, rfl, iteF' (by decide) ⟨_, _, _, ⟨rfl, rfl, rfl⟩, rfl⟩⟩
      · obtain ⟨z5, z6, z7, rfl, rfl⟩ := h
        subst hk1
        walk_at "rd"
        refine ⟨p, c, _, rfl, P9, by omega, fun H10 P10 b10 => ?_⟩
        exact ⟨_, rfl, iteF' (by decide) ⟨_, _, _, _, _, _, ⟨rfl, rfl, rfl, rfl, rfl, rfl⟩, P10.mono (by omega)⟩⟩
    · obtain ⟨y2, y3, y4, y5, y6, y7, rfl, P4⟩ := h
      subst hk0
      walk_at "rd"
      exact q _
end
end Fp

namespace Fp
open PySem PySem.Spec PyProof.Rows L2
local macro_rules | `(tactic| walk_at "rd") => `(tactic| simp only [cxK, cxKn, tRet, tRetN, rIntI, rIntB, rLenL, rListL, rListT, rAbs, tDisp, tPairs, tC, tCB, tCons, tNil, tSl, tVar, tNoPart, tPart, rSlL, tOp, tAsg, gName, tIfS, tDrop, tTest, tAnd, tOr, Evl.tCut, tNot, tB, rI0, rI, rIxL, rIxT, rIxD, tDGet, sDPut, tLst, tTup, tBM, tBM0, tPar, tPar3, rAppend, rPopAt, rPop, rExtend, rTupL, tCall, tNext, rAll, rOwnIn, rOwn2, rCat, lc_iL, lc_iT, lc_iK, lc_iR, lc_iE, fr_iL, fr_iT, fr_iR, tYes, rIn, rEq, rNe, gTup, gCons, gNil, wipe, tMeth, tFld, sFld, tMake, tProp, tIf, tAndV, tOrV, tNotV, tTru, rIsi, rSum, tRevL, rU, tUn, rIxS, iEnum, tMkE, tMkS, tFldE, if_true, if_false, Bool.false_eq_true, List.map_cons, List.map_nil, List.nil_append, List.append_nil, List.cons_append, List.getElem?_cons_zero, List.getElem?_cons_succ, Option.some.injEq, exists_and_left, exists_eq_left', exists_eq_left, List.cons.injEq, and_true, true_and, V.ref.injEq, V.int.injEq, V.str.injEq, V.bl.injEq, List.set_cons_zero, List.set_cons_succ])
abbrev s_OtherTags___init__ : Stmt := inClass (topS 8) 0
theorem nc_OtherTags : ∀ x ∈ (defScope s_OtherTags___init__).names, x.2 ≠ .cell := by decide +kernel
theorem sb_OtherTags : defBody s_OtherTags___init__ = supBody ⟨31, 8, 31, 13⟩ ⟨31, 8, 31, 15⟩ ⟨31, 8, 31, 24⟩ ⟨31, 8, 31, 26⟩ ⟨31, 8, 31, 26⟩ := rfl
abbrev s_Doubled___init__ : Stmt := inClass (topS 9) 0
theorem nc_Doubled : ∀ x ∈ (defScope s_Doubled___init__).names, x.2 ≠ .cell := by decide +kernel
theorem sb_Doubled : defBody s_Doubled___init__ = supBody ⟨35, 8, 35, 13⟩ ⟨35, 8, 35, 15⟩ ⟨35, 8, 35, 24⟩ ⟨35, 8, 35, 26⟩ ⟨35, 8, 35, 26⟩ := rfl
abbrev s_NotNeighbours___init__ : Stmt := inClass (topS 16) 0
theorem nc_NotNeighbours : ∀ x ∈ (defScope s_NotNeighbours___init__).names, x.2 ≠ .cell := by decide +kernel
theorem sb_NotNeighbours : defBody s_NotNeighbours___init__ = supBody ⟨64, 8, 64, 13⟩ ⟨64, 8, 64, 15⟩ ⟨64, 8, 64, 24⟩ ⟨64, 8, 64, 26⟩ ⟨64, 8, 64, 26⟩ := rfl
abbrev s_TooMany___init__ : Stmt := inClass (topS 19) 0
theorem nc_TooMany : ∀ x ∈ (defScope s_TooMany___init__).names, x.2 ≠ .cell := by decide +kernel
theorem sb_TooMany : defBody s_TooMany___init__ = supBody ⟨76, 8, 76, 13⟩ ⟨76, 8, 76, 15⟩ ⟨76, 8, 76, 24⟩ ⟨76, 8, 76, 26⟩ ⟨76, 8, 76, 26⟩ := rfl
abbrev s_NothingToUndo___init__ : Stmt := inClass (topS 24) 0
theorem nc_NothingToUndo : ∀ x ∈ (defScope s_NothingToUndo___init__).names, x.2 ≠ .cell := by decide +kernel
theorem sb_NothingToUndo : defBody s_NothingToUndo___init__ = supBody ⟨96, 8, 96, 13⟩ ⟨96, 8, 96, 15⟩ ⟨96, 8, 96, 24⟩ ⟨96, 8, 96, 26⟩ ⟨96, 8, 96, 26⟩ := rfl
theorem sup_up {K : PySem.W.Frag} {FE C : Addr} (e : EC K FE C) (lF : ∃ nm q N bs sn sub ab col dd k0 k1 k2 k3 k5, K.lookup FE = some (excClassObj nm q FE N bs PySem.HandSPX.veTail true sn sub ab col dd k0 k1 k2 k3 k5 "ValueError.__new__")) (uF : PySem.W.findIn K (.ref FE) "__init__" = some (some (.builtin "ValueError.__init__"))) :
    PySem.W.ks_superIn K C C "__init__" = some (some (.builtin "ValueError.__init__")) := by
  obtain ⟨nm, q, N, bs, sn, sub, ab, col, dd, k0, k1, k2, k3, k5, hF⟩ := lF
  have u : PySem.W.alongIn K "__init__" (.ref FE :: PySem.HandSPX.veTail) = some (some (.builtin "ValueError.__init__")) := by
    unfold PySem.W.findIn at uF
    simp only [hF] at uF
    exact uF
  obtain ⟨cd, h1, h2, _⟩ := e.cl.cd
  unfold PySem.W.ks_superIn
  rw [h1, Option.bind_some, h2]
  have d : ((Value.ref C :: Value.ref FE :: PySem.HandSPX.veTail).dropWhile (· != .ref C)).drop 1 = .ref FE :: PySem.HandSPX.veTail := by
    rw [List.dropWhile_cons_of_neg (by simp)]
    rfl
  rw [d, u]
theorem all_mk {l : PySem.W.OpenLaw} {w : World} {K : PySem.W.Frag} {h : Heap} {mg : Str → Option Value} {fa : Addr} (X : K.In h) (G : h.Ns mainGlobals mg) (hfa : mg "law" = some (.ref fa))
    {FE f_ow f_pe f_dr f_pi f_sh f_ba f_nm f_cs f_nu f_nd f_io f_li f_la C0 g0 C1 g1 C2 g2 C3 g3 C4 g4 C5 g5 C6 g6 C7 g7 C8 g8 C9 g9 C10 g10 C11 g11 C12 g12 C13 g13 C14 g14 C15 g15 C16 g16 C17 g17 C18 g18 C19 g19 C20 g20 C21 g21 : Addr} {od_ow an_ow od_pe an_pe od_dr an_dr od_pi an_pi od_sh an_sh od_ba an_ba od_nm an_nm od_cs an_cs od_nu an_nu od_nd an_nd od_io an_io od_li an_li od_la an_la : Option Addr} {sl_ow sl_pe sl_dr sl_pi sl_sh sl_ba sl_nm sl_cs sl_nu sl_nd sl_io sl_li sl_la : Array (Option Value)}
    {oc_ow kV_ow dc_ow pm_ow cd_ow ct_ow oc_pe kV_pe dc_pe pm_pe cd_pe ct_pe oc_dr kV_dr dc_dr pm_dr cd_dr ct_dr oc_pi kV_pi dc_pi pm_pi cd_pi ct_pi oc_sh kV_sh dc_sh pm_sh cd_sh ct_sh oc_ba kV_ba dc_ba pm_ba cd_ba ct_ba oc_nm kV_nm dc_nm pm_nm cd_nm ct_nm oc_cs kV_cs dc_cs pm_cs cd_cs ct_cs oc_nu kV_nu dc_nu pm_nu cd_nu ct_nu oc_nd kV_nd dc_nd pm_nd cd_nd ct_nd oc_io kV_io dc_io pm_io cd_io ct_io oc_li kV_li dc_li pm_li cd_li ct_li oc_la kV_la dc_la pm_la cd_la ct_la : Value}
    (a_ow : PySem.W.nsIn K mainGlobals "_own" = some (some (.ref f_ow)))
    (l_ow : K.lookup f_ow = some ⟨oc_ow, od_ow, .func (PySem.W.fnOf "_own" "_own" (defArgs s__own) (defBody s__own) (defScope s__own) .none kV_ow dc_ow pm_ow an_ow cd_ow ct_ow), sl_ow⟩)
    (c_ow : PySem.W.codeIn K cd_ow "_own" = true)
    (k_ow : PySem.W.keepIn K (.ref f_ow) = true)
    (a_pe : PySem.W.nsIn K mainGlobals "_law_pen" = some (some (.ref f_pe)))
    (l_pe : K.lookup f_pe = some ⟨oc_pe, od_pe, .func (PySem.W.fnOf "_law_pen" "_law_pen" (defArgs s__law_pen) (defBody s__law_pen) (defScope s__law_pen) .none kV_pe dc_pe pm_pe an_pe cd_pe ct_pe), sl_pe⟩)
    (c_pe : PySem.W.codeIn K cd_pe "_law_pen" = true)
    (k_pe : PySem.W.keepIn K (.ref f_pe) = true)
    (a_dr : PySem.W.nsIn K mainGlobals "_law_draw" = some (some (.ref f_dr)))
    (l_dr : K.lookup f_dr = some ⟨oc_dr, od_dr, .func (PySem.W.fnOf "_law_draw" "_law_draw" (defArgs s__law_draw) (defBody s__law_draw) (defScope s__law_draw) .none kV_dr dc_dr pm_dr an_dr cd_dr ct_dr), sl_dr⟩)
    (c_dr : PySem.W.codeIn K cd_dr "_law_draw" = true)
    (k_dr : PySem.W.keepIn K (.ref f_dr) = true)
    (a_pi : PySem.W.nsIn K mainGlobals "_law_pick" = some (some (.ref f_pi)))
    (l_pi : K.lookup f_pi = some ⟨oc_pi, od_pi, .func (PySem.W.fnOf "_law_pick" "_law_pick" (defArgs s__law_pick) (defBody s__law_pick) (defScope s__law_pick) .none kV_pi dc_pi pm_pi an_pi cd_pi ct_pi), sl_pi⟩)
    (c_pi : PySem.W.codeIn K cd_pi "_law_pick" = true)
    (k_pi : PySem.W.keepIn K (.ref f_pi) = true)
    (a_sh : PySem.W.nsIn K mainGlobals "_law_shuffled" = some (some (.ref f_sh)))
    (l_sh : K.lookup f_sh = some ⟨oc_sh, od_sh, .func (PySem.W.fnOf "_law_shuffled" "_law_shuffled" (defArgs s__law_shuffled) (defBody s__law_shuffled) (defScope s__law_shuffled) .none kV_sh dc_sh pm_sh an_sh cd_sh ct_sh), sl_sh⟩)
    (c_sh : PySem.W.codeIn K cd_sh "_law_shuffled" = true)
    (k_sh : PySem.W.keepIn K (.ref f_sh) = true)
    (a_ba : PySem.W.nsIn K mainGlobals "_law_barred" = some (some (.ref f_ba)))
    (l_ba : K.lookup f_ba = some ⟨oc_ba, od_ba, .func (PySem.W.fnOf "_law_barred" "_law_barred" (defArgs s__law_barred) (defBody s__law_barred) (defScope s__law_barred) .none kV_ba dc_ba pm_ba an_ba cd_ba ct_ba), sl_ba⟩)
    (c_ba : PySem.W.codeIn K cd_ba "_law_barred" = true)
    (k_ba : PySem.W.keepIn K (.ref f_ba) = true)
    (a_nm : PySem.W.nsIn K mainGlobals "_law_names" = some (some (.ref f_nm)))
    (l_nm : K.lookup f_nm = some ⟨oc_nm, od_nm, .func (PySem.W.fnOf "_law_names" "_law_names" (defArgs s__law_names) (defBody s__law_names) (defScope s__law_names) .none kV_nm dc_nm pm_nm an_nm cd_nm ct_nm), sl_nm⟩)
    (c_nm : PySem.W.codeIn K cd_nm "_law_names" = true)
    (k_nm : PySem.W.keepIn K (.ref f_nm) = true)
    (a_cs : PySem.W.nsIn K mainGlobals "_law_classes" = some (some (.ref f_cs)))
    (l_cs : K.lookup f_cs = some ⟨oc_cs, od_cs, .func (PySem.W.fnOf "_law_classes" "_law_classes" (defArgs s__law_classes) (defBody s__law_classes) (defScope s__law_classes) .none kV_cs dc_cs pm_cs an_cs cd_cs ct_cs), sl_cs⟩)
    (c_cs : PySem.W.codeIn K cd_cs "_law_classes" = true)
    (k_cs : PySem.W.keepIn K (.ref f_cs) = true)
    (a_nu : PySem.W.nsIn K mainGlobals "_law_numbered" = some (some (.ref f_nu)))
    (l_nu : K.lookup f_nu = some ⟨oc_nu, od_nu, .func (PySem.W.fnOf "_law_numbered" "_law_numbered" (defArgs s__law_numbered) (defBody s__law_numbered) (defScope s__law_numbered) .none kV_nu dc_nu pm_nu an_nu cd_nu ct_nu), sl_nu⟩)
    (c_nu : PySem.W.codeIn K cd_nu "_law_numbered" = true)
    (k_nu : PySem.W.keepIn K (.ref f_nu) = true)
    (a_nd : PySem.W.nsIn K mainGlobals "_law_named" = some (some (.ref f_nd)))
    (l_nd : K.lookup f_nd = some ⟨oc_nd, od_nd, .func (PySem.W.fnOf "_law_named" "_law_named" (defArgs s__law_named) (defBody s__law_named) (defScope s__law_named) .none kV_nd dc_nd pm_nd an_nd cd_nd ct_nd), sl_nd⟩)
    (c_nd : PySem.W.codeIn K cd_nd "_law_named" = true)
    (k_nd : PySem.W.keepIn K (.ref f_nd) = true)
    (a_io : PySem.W.nsIn K mainGlobals "_law_is_one" = some (some (.ref f_io)))
    (l_io : K.lookup f_io = some ⟨oc_io, od_io, .func (PySem.W.fnOf "_law_is_one" "_law_is_one" (defArgs s__law_is_one) (defBody s__law_is_one) (defScope s__law_is_one) .none kV_io dc_io pm_io an_io cd_io ct_io), sl_io⟩)
    (c_io : PySem.W.codeIn K cd_io "_law_is_one" = true)
    (k_io : PySem.W.keepIn K (.ref f_io) = true)
    (a_li : PySem.W.nsIn K mainGlobals "_law_listed" = some (some (.ref f_li)))
    (l_li : K.lookup f_li = some ⟨oc_li, od_li, .func (PySem.W.fnOf "_law_listed" "_law_listed" (defArgs s__law_listed) (defBody s__law_listed) (defScope s__law_listed) .none kV_li dc_li pm_li an_li cd_li ct_li), sl_li⟩)
    (c_li : PySem.W.codeIn K cd_li "_law_listed" = true)
    (k_li : PySem.W.keepIn K (.ref f_li) = true)
    (a_la : PySem.W.nsIn K mainGlobals "law" = some (some (.ref f_la)))
    (l_la : K.lookup f_la = some ⟨oc_la, od_la, .func (PySem.W.fnOf "law" "law" (defArgs s_law) (defBody s_law) (defScope s_law) .none kV_la dc_la pm_la an_la cd_la ct_la), sl_la⟩)
    (c_la : PySem.W.codeIn K cd_la "law" = true)
    (k_la : PySem.W.keepIn K (.ref f_la) = true)
    (aF : PySem.W.nsIn K mainGlobals "FoldError" = some (some (.ref FE)))
    (lF : ∃ nm q N bs sn sub ab col dd k0 k1 k2 k3 k5, K.lookup FE = some (excClassObj nm q FE N bs PySem.HandSPX.veTail true sn sub ab col dd k0 k1 k2 k3 k5 "ValueError.__new__"))
    (uF : PySem.W.findIn K (.ref FE) "__init__" = some (some (.builtin "ValueError.__init__")))
    (tF : PySem.W.typeIn K (.ref FE) = some (.type "type"))
    (opq : PySem.W.nsIn K cStatics "thirdparty.any" = some none)
    (spe : PySem.W.specialIn K (.builtin "object.__class__") "__get__" = some (some (.builtin "getset_descriptor.__get__")))
    (tke : PySem.W.takesIn K (.builtin "object.__class__") = some true)
    (aC0 : PySem.W.nsIn K mainGlobals "BadCount" = some (some (.ref C0)))
    (ec0 : EC K FE C0)
    (in0 : PySem.W.findIn K (.ref C0) "__init__" = some (some (.ref g0)))
    (ty0 : PySem.W.typeIn K (.ref g0) = some (.type "function"))
    (fn0 : ∃ (oc : Value) (od : Option Addr) (kV doc pm : Value) (an : Option Addr) (cdv ct : Value) (osl : Array (Option Value)), K.lookup g0 = some ⟨oc, od, .func (PySem.W.fnOf "__init__" "BadCount.__init__" (defArgs s_BadCount___init__) (defBody s_BadCount___init__) (defScope s_BadCount___init__) .none kV doc pm an cdv ct), osl⟩ ∧ PySem.W.codeIn K cdv "BadCount.__init__" = true ∧ PySem.W.keepIn K (.ref g0) = true)
    (nf0_count : PySem.W.findIn K (.ref C0) "count" = some none)
    (aC1 : PySem.W.nsIn K mainGlobals "BadLoop" = some (some (.ref C1)))
    (ec1 : EC K FE C1)
    (in1 : PySem.W.findIn K (.ref C1) "__init__" = some (some (.ref g1)))
    (ty1 : PySem.W.typeIn K (.ref g1) = some (.type "function"))
    (fn1 : ∃ (oc : Value) (od : Option Addr) (kV doc pm : Value) (an : Option Addr) (cdv ct : Value) (osl : Array (Option Value)), K.lookup g1 = some ⟨oc, od, .func (PySem.W.fnOf "__init__" "BadLoop.__init__" (defArgs s_BadLoop___init__) (defBody s_BadLoop___init__) (defScope s_BadLoop___init__) .none kV doc pm an cdv ct), osl⟩ ∧ PySem.W.codeIn K cdv "BadLoop.__init__" = true ∧ PySem.W.keepIn K (.ref g1) = true)
    (nf1_line : PySem.W.findIn K (.ref C1) "line" = some none)
    (aC2 : PySem.W.nsIn K mainGlobals "BadName" = some (some (.ref C2)))
    (ec2 : EC K FE C2)
    (in2 : PySem.W.findIn K (.ref C2) "__init__" = some (some (.ref g2)))
    (ty2 : PySem.W.typeIn K (.ref g2) = some (.type "function"))
    (fn2 : ∃ (oc : Value) (od : Option Addr) (kV doc pm : Value) (an : Option Addr) (cdv ct : Value) (osl : Array (Option Value)), K.lookup g2 = some ⟨oc, od, .func (PySem.W.fnOf "__init__" "BadName.__init__" (defArgs s_BadName___init__) (defBody s_BadName___init__) (defScope s_BadName___init__) .none kV doc pm an cdv ct), osl⟩ ∧ PySem.W.codeIn K cdv "BadName.__init__" = true ∧ PySem.W.keepIn K (.ref g2) = true)
    (nf2_name : PySem.W.findIn K (.ref C2) "name" = some none)
    (aC3 : PySem.W.nsIn K mainGlobals "BadSize" = some (some (.ref C3)))
    (ec3 : EC K FE C3)
    (in3 : PySem.W.findIn K (.ref C3) "__init__" = some (some (.ref g3)))
    (ty3 : PySem.W.typeIn K (.ref g3) = some (.type "function"))
    (fn3 : ∃ (oc : Value) (od : Option Addr) (kV doc pm : Value) (an : Option Addr) (cdv ct : Value) (osl : Array (Option Value)), K.lookup g3 = some ⟨oc, od, .func (PySem.W.fnOf "__init__" "BadSize.__init__" (defArgs s_BadSize___init__) (defBody s_BadSize___init__) (defScope s_BadSize___init__) .none kV doc pm an cdv ct), osl⟩ ∧ PySem.W.codeIn K cdv "BadSize.__init__" = true ∧ PySem.W.keepIn K (.ref g3) = true)
    (nf3_size : PySem.W.findIn K (.ref C3) "size" = some none)
    (aC4 : PySem.W.nsIn K mainGlobals "BadTable" = some (some (.ref C4)))
    (ec4 : EC K FE C4)
    (in4 : PySem.W.findIn K (.ref C4) "__init__" = some (some (.ref g4)))
    (ty4 : PySem.W.typeIn K (.ref g4) = some (.type "function"))
    (fn4 : ∃ (oc : Value) (od : Option Addr) (kV doc pm : Value) (an : Option Addr) (cdv ct : Value) (osl : Array (Option Value)), K.lookup g4 = some ⟨oc, od, .func (PySem.W.fnOf "__init__" "BadTable.__init__" (defArgs s_BadTable___init__) (defBody s_BadTable___init__) (defScope s_BadTable___init__) .none kV doc pm an cdv ct), osl⟩ ∧ PySem.W.codeIn K cdv "BadTable.__init__" = true ∧ PySem.W.keepIn K (.ref g4) = true)
    (nf4_line : PySem.W.findIn K (.ref C4) "line" = some none)
    (aC5 : PySem.W.nsIn K mainGlobals "BadTag" = some (some (.ref C5)))
    (ec5 : EC K FE C5)
    (in5 : PySem.W.findIn K (.ref C5) "__init__" = some (some (.ref g5)))
    (ty5 : PySem.W.typeIn K (.ref g5) = some (.type "function"))
    (fn5 : ∃ (oc : Value) (od : Option Addr) (kV doc pm : Value) (an : Option Addr) (cdv ct : Value) (osl : Array (Option Value)), K.lookup g5 = some ⟨oc, od, .func (PySem.W.fnOf "__init__" "BadTag.__init__" (defArgs s_BadTag___init__) (defBody s_BadTag___init__) (defScope s_BadTag___init__) .none kV doc pm an cdv ct), osl⟩ ∧ PySem.W.codeIn K cdv "BadTag.__init__" = true ∧ PySem.W.keepIn K (.ref g5) = true)
    (nf5_index : PySem.W.findIn K (.ref C5) "index" = some none)
    (aC6 : PySem.W.nsIn K mainGlobals "BadValue" = some (some (.ref C6)))
    (ec6 : EC K FE C6)
    (in6 : PySem.W.findIn K (.ref C6) "__init__" = some (some (.ref g6)))
    (ty6 : PySem.W.typeIn K (.ref g6) = some (.type "function"))
    (fn6 : ∃ (oc : Value) (od : Option Addr) (kV doc pm : Value) (an : Option Addr) (cdv ct : Value) (osl : Array (Option Value)), K.lookup g6 = some ⟨oc, od, .func (PySem.W.fnOf "__init__" "BadValue.__init__" (defArgs s_BadValue___init__) (defBody s_BadValue___init__) (defScope s_BadValue___init__) .none kV doc pm an cdv ct), osl⟩ ∧ PySem.W.codeIn K cdv "BadValue.__init__" = true ∧ PySem.W.keepIn K (.ref g6) = true)
    (nf6_value : PySem.W.findIn K (.ref C6) "value" = some none)
    (aC7 : PySem.W.nsIn K mainGlobals "Barred" = some (some (.ref C7)))
    (ec7 : EC K FE C7)
    (in7 : PySem.W.findIn K (.ref C7) "__init__" = some (some (.ref g7)))
    (ty7 : PySem.W.typeIn K (.ref g7) = some (.type "function"))
    (fn7 : ∃ (oc : Value) (od : Option Addr) (kV doc pm : Value) (an : Option Addr) (cdv ct : Value) (osl : Array (Option Value)), K.lookup g7 = some ⟨oc, od, .func (PySem.W.fnOf "__init__" "Barred.__init__" (defArgs s_Barred___init__) (defBody s_Barred___init__) (defScope s_Barred___init__) .none kV doc pm an cdv ct), osl⟩ ∧ PySem.W.codeIn K cdv "Barred.__init__" = true ∧ PySem.W.keepIn K (.ref g7) = true)
    (nf7_names : PySem.W.findIn K (.ref C7) "names" = some none)
    (aC8 : PySem.W.nsIn K mainGlobals "Doubled" = some (some (.ref C8)))
    (ec8 : EC K FE C8)
    (in8 : PySem.W.findIn K (.ref C8) "__init__" = some (some (.ref g8)))
    (ty8 : PySem.W.typeIn K (.ref g8) = some (.type "function"))
    (fn8 : ∃ (oc : Value) (od : Option Addr) (kV doc pm ct cl ccl : Value) (an cld cdd : Option Addr) (osl csl ccs : Array (Option Value)) (cc cda : Addr) (vs : Array Value) (file : Str) (tf : Tok), K.lookup g8 = some ⟨oc, od, .func (PySem.W.ksFn "__init__" "Doubled.__init__" (defArgs s_Doubled___init__) (defBody s_Doubled___init__) (defScope s_Doubled___init__) .none kV doc pm an (.ref cda) ct cc), osl⟩ ∧ PySem.W.codeIn K (.ref cda) "Doubled.__init__" = true ∧ K.lookup cc = some ⟨cl, cld, .cell (some (.ref C8)), csl⟩ ∧ K.lookup cda = some ⟨ccl, cdd, .fields vs, ccs⟩ ∧ vs[2]? = some (.str file tf) ∧ ((l.prog.main.file : Str) == file) = true)
    (aC9 : PySem.W.nsIn K mainGlobals "EmptySum" = some (some (.ref C9)))
    (ec9 : EC K FE C9)
    (in9 : PySem.W.findIn K (.ref C9) "__init__" = some (some (.ref g9)))
    (ty9 : PySem.W.typeIn K (.ref g9) = some (.type "function"))
    (fn9 : ∃ (oc : Value) (od : Option Addr) (kV doc pm : Value) (an : Option Addr) (cdv ct : Value) (osl : Array (Option Value)), K.lookup g9 = some ⟨oc, od, .func (PySem.W.fnOf "__init__" "EmptySum.__init__" (defArgs s_EmptySum___init__) (defBody s_EmptySum___init__) (defScope s_EmptySum___init__) .none kV doc pm an cdv ct), osl⟩ ∧ PySem.W.codeIn K cdv "EmptySum.__init__" = true ∧ PySem.W.keepIn K (.ref g9) = true)
    (nf9_row : PySem.W.findIn K (.ref C9) "row" = some none)
    (aC10 : PySem.W.nsIn K mainGlobals "NoKind" = some (some (.ref C10)))
    (ec10 : EC K FE C10)
    (in10 : PySem.W.findIn K (.ref C10) "__init__" = some (some (.ref g10)))
    (ty10 : PySem.W.typeIn K (.ref g10) = some (.type "function"))
    (fn10 : ∃ (oc : Value) (od : Option Addr) (kV doc pm : Value) (an : Option Addr) (cdv ct : Value) (osl : Array (Option Value)), K.lookup g10 = some ⟨oc, od, .func (PySem.W.fnOf "__init__" "NoKind.__init__" (defArgs s_NoKind___init__) (defBody s_NoKind___init__) (defScope s_NoKind___init__) .none kV doc pm an cdv ct), osl⟩ ∧ PySem.W.codeIn K cdv "NoKind.__init__" = true ∧ PySem.W.keepIn K (.ref g10) = true)
    (nf10_name : PySem.W.findIn K (.ref C10) "name" = some none)
    (aC11 : PySem.W.nsIn K mainGlobals "NoLoop" = some (some (.ref C11)))
    (ec11 : EC K FE C11)
    (in11 : PySem.W.findIn K (.ref C11) "__init__" = some (some (.ref g11)))
    (ty11 : PySem.W.typeIn K (.ref g11) = some (.type "function"))
    (fn11 : ∃ (oc : Value) (od : Option Addr) (kV doc pm : Value) (an : Option Addr) (cdv ct : Value) (osl : Array (Option Value)), K.lookup g11 = some ⟨oc, od, .func (PySem.W.fnOf "__init__" "NoLoop.__init__" (defArgs s_NoLoop___init__) (defBody s_NoLoop___init__) (defScope s_NoLoop___init__) .none kV doc pm an cdv ct), osl⟩ ∧ PySem.W.codeIn K cdv "NoLoop.__init__" = true ∧ PySem.W.keepIn K (.ref g11) = true)
    (nf11_name : PySem.W.findIn K (.ref C11) "name" = some none)
    (aC12 : PySem.W.nsIn K mainGlobals "NoNormal" = some (some (.ref C12)))
    (ec12 : EC K FE C12)
    (in12 : PySem.W.findIn K (.ref C12) "__init__" = some (some (.ref g12)))
    (ty12 : PySem.W.typeIn K (.ref g12) = some (.type "function"))
    (fn12 : ∃ (oc : Value) (od : Option Addr) (kV doc pm : Value) (an : Option Addr) (cdv ct : Value) (osl : Array (Option Value)), K.lookup g12 = some ⟨oc, od, .func (PySem.W.fnOf "__init__" "NoNormal.__init__" (defArgs s_NoNormal___init__) (defBody s_NoNormal___init__) (defScope s_NoNormal___init__) .none kV doc pm an cdv ct), osl⟩ ∧ PySem.W.codeIn K cdv "NoNormal.__init__" = true ∧ PySem.W.keepIn K (.ref g12) = true)
    (nf12_name : PySem.W.findIn K (.ref C12) "name" = some none)
    (aC13 : PySem.W.nsIn K mainGlobals "NoRule" = some (some (.ref C13)))
    (ec13 : EC K FE C13)
    (in13 : PySem.W.findIn K (.ref C13) "__init__" = some (some (.ref g13)))
    (ty13 : PySem.W.typeIn K (.ref g13) = some (.type "function"))
    (fn13 : ∃ (oc : Value) (od : Option Addr) (kV doc pm : Value) (an : Option Addr) (cdv ct : Value) (osl : Array (Option Value)), K.lookup g13 = some ⟨oc, od, .func (PySem.W.fnOf "__init__" "NoRule.__init__" (defArgs s_NoRule___init__) (defBody s_NoRule___init__) (defScope s_NoRule___init__) .none kV doc pm an cdv ct), osl⟩ ∧ PySem.W.codeIn K cdv "NoRule.__init__" = true ∧ PySem.W.keepIn K (.ref g13) = true)
    (nf13_name : PySem.W.findIn K (.ref C13) "name" = some none)
    (aC14 : PySem.W.nsIn K mainGlobals "NoTag" = some (some (.ref C14)))
    (ec14 : EC K FE C14)
    (in14 : PySem.W.findIn K (.ref C14) "__init__" = some (some (.ref g14)))
    (ty14 : PySem.W.typeIn K (.ref g14) = some (.type "function"))
    (fn14 : ∃ (oc : Value) (od : Option Addr) (kV doc pm : Value) (an : Option Addr) (cdv ct : Value) (osl : Array (Option Value)), K.lookup g14 = some ⟨oc, od, .func (PySem.W.fnOf "__init__" "NoTag.__init__" (defArgs s_NoTag___init__) (defBody s_NoTag___init__) (defScope s_NoTag___init__) .none kV doc pm an cdv ct), osl⟩ ∧ PySem.W.codeIn K cdv "NoTag.__init__" = true ∧ PySem.W.keepIn K (.ref g14) = true)
    (nf14_name : PySem.W.findIn K (.ref C14) "name" = some none)
    (aC15 : PySem.W.nsIn K mainGlobals "NotAlike" = some (some (.ref C15)))
    (ec15 : EC K FE C15)
    (in15 : PySem.W.findIn K (.ref C15) "__init__" = some (some (.ref g15)))
    (ty15 : PySem.W.typeIn K (.ref g15) = some (.type "function"))
    (fn15 : ∃ (oc : Value) (od : Option Addr) (kV doc pm : Value) (an : Option Addr) (cdv ct : Value) (osl : Array (Option Value)), K.lookup g15 = some ⟨oc, od, .func (PySem.W.fnOf "__init__" "NotAlike.__init__" (defArgs s_NotAlike___init__) (defBody s_NotAlike___init__) (defScope s_NotAlike___init__) .none kV doc pm an cdv ct), osl⟩ ∧ PySem.W.codeIn K cdv "NotAlike.__init__" = true ∧ PySem.W.keepIn K (.ref g15) = true)
    (nf15_row : PySem.W.findIn K (.ref C15) "row" = some none)
    (aC16 : PySem.W.nsIn K mainGlobals "NotHere" = some (some (.ref C16)))
    (ec16 : EC K FE C16)
    (in16 : PySem.W.findIn K (.ref C16) "__init__" = some (some (.ref g16)))
    (ty16 : PySem.W.typeIn K (.ref g16) = some (.type "function"))
    (fn16 : ∃ (oc : Value) (od : Option Addr) (kV doc pm : Value) (an : Option Addr) (cdv ct : Value) (osl : Array (Option Value)), K.lookup g16 = some ⟨oc, od, .func (PySem.W.fnOf "__init__" "NotHere.__init__" (defArgs s_NotHere___init__) (defBody s_NotHere___init__) (defScope s_NotHere___init__) .none kV doc pm an cdv ct), osl⟩ ∧ PySem.W.codeIn K cdv "NotHere.__init__" = true ∧ PySem.W.keepIn K (.ref g16) = true)
    (nf16_name : PySem.W.findIn K (.ref C16) "name" = some none)
    (aC17 : PySem.W.nsIn K mainGlobals "NothingToUndo" = some (some (.ref C17)))
    (ec17 : EC K FE C17)
    (in17 : PySem.W.findIn K (.ref C17) "__init__" = some (some (.ref g17)))
    (ty17 : PySem.W.typeIn K (.ref g17) = some (.type "function"))
    (fn17 : ∃ (oc : Value) (od : Option Addr) (kV doc pm ct cl ccl : Value) (an cld cdd : Option Addr) (osl csl ccs : Array (Option Value)) (cc cda : Addr) (vs : Array Value) (file : Str) (tf : Tok), K.lookup g17 = some ⟨oc, od, .func (PySem.W.ksFn "__init__" "NothingToUndo.__init__" (defArgs s_NothingToUndo___init__) (defBody s_NothingToUndo___init__) (defScope s_NothingToUndo___init__) .none kV doc pm an (.ref cda) ct cc), osl⟩ ∧ PySem.W.codeIn K (.ref cda) "NothingToUndo.__init__" = true ∧ K.lookup cc = some ⟨cl, cld, .cell (some (.ref C17)), csl⟩ ∧ K.lookup cda = some ⟨ccl, cdd, .fields vs, ccs⟩ ∧ vs[2]? = some (.str file tf) ∧ ((l.prog.main.file : Str) == file) = true)
    (aC18 : PySem.W.nsIn K mainGlobals "NotNeighbours" = some (some (.ref C18)))
    (ec18 : EC K FE C18)
    (in18 : PySem.W.findIn K (.ref C18) "__init__" = some (some (.ref g18)))
    (ty18 : PySem.W.typeIn K (.ref g18) = some (.type "function"))
    (fn18 : ∃ (oc : Value) (od : Option Addr) (kV doc pm ct cl ccl : Value) (an cld cdd : Option Addr) (osl csl ccs : Array (Option Value)) (cc cda : Addr) (vs : Array Value) (file : Str) (tf : Tok), K.lookup g18 = some ⟨oc, od, .func (PySem.W.ksFn "__init__" "NotNeighbours.__init__" (defArgs s_NotNeighbours___init__) (defBody s_NotNeighbours___init__) (defScope s_NotNeighbours___init__) .none kV doc pm an (.ref cda) ct cc), osl⟩ ∧ PySem.W.codeIn K (.ref cda) "NotNeighbours.__init__" = true ∧ K.lookup cc = some ⟨cl, cld, .cell (some (.ref C18)), csl⟩ ∧ K.lookup cda = some ⟨ccl, cdd, .fields vs, ccs⟩ ∧ vs[2]? = some (.str file tf) ∧ ((l.prog.main.file : Str) == file) = true)
    (aC19 : PySem.W.nsIn K mainGlobals "OtherTags" = some (some (.ref C19)))
    (ec19 : EC K FE C19)
    (in19 : PySem.W.findIn K (.ref C19) "__init__" = some (some (.ref g19)))
    (ty19 : PySem.W.typeIn K (.ref g19) = some (.type "function"))
    (fn19 : ∃ (oc : Value) (od : Option Addr) (kV doc pm ct cl ccl : Value) (an cld cdd : Option Addr) (osl csl ccs : Array (Option Value)) (cc cda : Addr) (vs : Array Value) (file : Str) (tf : Tok), K.lookup g19 = some ⟨oc, od, .func (PySem.W.ksFn "__init__" "OtherTags.__init__" (defArgs s_OtherTags___init__) (defBody s_OtherTags___init__) (defScope s_OtherTags___init__) .none kV doc pm an (.ref cda) ct cc), osl⟩ ∧ PySem.W.codeIn K (.ref cda) "OtherTags.__init__" = true ∧ K.lookup cc = some ⟨cl, cld, .cell (some (.ref C19)), csl⟩ ∧ K.lookup cda = some ⟨ccl, cdd, .fields vs, ccs⟩ ∧ vs[2]? = some (.str file tf) ∧ ((l.prog.main.file : Str) == file) = true)
    (aC20 : PySem.W.nsIn K mainGlobals "NotClosed" = some (some (.ref C20)))
    (ec20 : EC K FE C20)
    (in20 : PySem.W.findIn K (.ref C20) "__init__" = some (some (.ref g20)))
    (ty20 : PySem.W.typeIn K (.ref g20) = some (.type "function"))
    (fn20 : ∃ (oc : Value) (od : Option Addr) (kV doc pm : Value) (an : Option Addr) (cdv ct : Value) (osl : Array (Option Value)), K.lookup g20 = some ⟨oc, od, .func (PySem.W.fnOf "__init__" "NotClosed.__init__" (defArgs s_NotClosed___init__) (defBody s_NotClosed___init__) (defScope s_NotClosed___init__) .none kV doc pm an cdv ct), osl⟩ ∧ PySem.W.codeIn K cdv "NotClosed.__init__" = true ∧ PySem.W.keepIn K (.ref g20) = true)
    (nf20_left : PySem.W.findIn K (.ref C20) "left" = some none)
    (nf20_right : PySem.W.findIn K (.ref C20) "right" = some none)
    (aC21 : PySem.W.nsIn K mainGlobals "TooMany" = some (some (.ref C21)))
    (ec21 : EC K FE C21)
    (in21 : PySem.W.findIn K (.ref C21) "__init__" = some (some (.ref g21)))
    (ty21 : PySem.W.typeIn K (.ref g21) = some (.type "function"))
    (fn21 : ∃ (oc : Value) (od : Option Addr) (kV doc pm ct cl ccl : Value) (an cld cdd : Option Addr) (osl csl ccs : Array (Option Value)) (cc cda : Addr) (vs : Array Value) (file : Str) (tf : Tok), K.lookup g21 = some ⟨oc, od, .func (PySem.W.ksFn "__init__" "TooMany.__init__" (defArgs s_TooMany___init__) (defBody s_TooMany___init__) (defScope s_TooMany___init__) .none kV doc pm an (.ref cda) ct cc), osl⟩ ∧ PySem.W.codeIn K (.ref cda) "TooMany.__init__" = true ∧ K.lookup cc = some ⟨cl, cld, .cell (some (.ref C21)), csl⟩ ∧ K.lookup cda = some ⟨ccl, cdd, .fields vs, ccs⟩ ∧ vs[2]? = some (.str file tf) ∧ ((l.prog.main.file : Str) == file) = true)
    (z_list : PySem.W.nsIn K mainGlobals "list" = some none)
    (z_isinstance : PySem.W.nsIn K mainGlobals "isinstance" = some none)
    (z_range : PySem.W.nsIn K mainGlobals "range" = some none)
    (z_int : PySem.W.nsIn K mainGlobals "int" = some none)
    (z_len : PySem.W.nsIn K mainGlobals "len" = some none)
    (z_abs : PySem.W.nsIn K mainGlobals "abs" = some none)
    (z_enumerate : PySem.W.nsIn K mainGlobals "enumerate" = some none)
    (z_super : PySem.W.nsIn K mainGlobals "super" = some none)
    (z_ValueError : PySem.W.nsIn K mainGlobals "ValueError" = some none)
    (hnd : [C0, C1, C2, C3, C4, C5, C6, C7, C8, C9, C10, C11, C12, C13, C14, C15, C16, C17, C18, C19, C20, C21].Nodup)
    (hnF : FE ∉ [C0, C1, C2, C3, C4, C5, C6, C7, C8, C9, C10, C11, C12, C13, C14, C15, C16, C17, C18, C19, C20, C21])
    (htop : (l.prog.main.scope.names.lookup ("super" : Str)).isSome = false)
    : ∃ fd : FuncData, (∀ (s : Shared) (v : Value), BindsTo s fd ⟨[v], []⟩ [("script", v)]) ∧ ∀ base : Heap, K.In base → base.Ns mainGlobals mg → FnOk l.prog w K mg base CX0 5 fa fd ["script"] (spLaw K) := by
  have e := hfa.symm.trans (PySem.W.mg_of X G a_la)
  cases e
  have F_ow := fun_mk (st := s__own) l_ow c_ow k_ow
  have b_ow := F_ow.binds (ps := ["given"]) fun _ _ _ _ _ _ us hl => match us, hl with | [_], _ => rfl
  have F_pe := fun_mk (st := s__law_pen) l_pe c_pe k_pe
  have b_pe := F_pe.binds (ps := ["script"]) fun _ _ _ _ _ _ us hl => match us, hl with | [_], _ => rfl
  have F_dr := fun_mk (st := s__law_draw) l_dr c_dr k_dr
  have b_dr := F_dr.binds (ps := ["pen", "span"]) fun _ _ _ _ _ _ us hl => match us, hl with | [_, _], _ => rfl
  have F_pi := fun_mk (st := s__law_pick) l_pi c_pi k_pi
  have b_pi := F_pi.binds (ps := ["pen", "options"]) fun _ _ _ _ _ _ us hl => match us, hl with | [_, _], _ => rfl
  have F_sh := fun_mk (st := s__law_shuffled) l_sh c_sh k_sh
  have b_sh := F_sh.binds (ps := ["pen", "items"]) fun _ _ _ _ _ _ us hl => match us, hl with | [_, _], _ => rfl
  have F_ba := fun_mk (st := s__law_barred) l_ba c_ba k_ba
  have b_ba := F_ba.binds (ps := ([] : List Str)) fun _ _ _ _ _ _ us hl => match us, hl with | [], _ => rfl
  have F_nm := fun_mk (st := s__law_names) l_nm c_nm k_nm
  have b_nm := F_nm.binds (ps := ["pen", "many"]) fun _ _ _ _ _ _ us hl => match us, hl with | [_, _], _ => rfl
  have F_cs := fun_mk (st := s__law_classes) l_cs c_cs k_cs
  have b_cs := F_cs.binds (ps := ["e"]) fun _ _ _ _ _ _ us hl => match us, hl with | [_], _ => rfl
  have F_nu := fun_mk (st := s__law_numbered) l_nu c_nu k_nu
  have b_nu := F_nu.binds (ps := ["number"]) fun _ _ _ _ _ _ us hl => match us, hl with | [_], _ => rfl
  have F_nd := fun_mk (st := s__law_named) l_nd c_nd k_nd
  have b_nd := F_nd.binds (ps := ["text"]) fun _ _ _ _ _ _ us hl => match us, hl with | [_], _ => rfl
  have F_io := fun_mk (st := s__law_is_one) l_io c_io k_io
  have b_io := F_io.binds (ps := ["e", "kind"]) fun _ _ _ _ _ _ us hl => match us, hl with | [_, _], _ => rfl
  have F_li := fun_mk (st := s__law_listed) l_li c_li k_li
  have b_li := F_li.binds (ps := ["pen"]) fun _ _ _ _ _ _ us hl => match us, hl with | [_], _ => rfl
  have F_la := fun_mk (st := s_law) l_la c_la k_la
  let T : Nat → Addr := fun i => ([C0, C1, C2, C3, C4, C5, C6, C7, C8, C9, C10, C11, C12, C13, C14, C15, C16, C17, C18, C19, C20, C21] : List Addr).getD i 0
  have hT : T22 T = [C0, C1, C2, C3, C4, C5, C6, C7, C8, C9, C10, C11, C12, C13, C14, C15, C16, C17, C18, C19, C20, C21] := rfl
  have ecs : ∀ C ∈ T22 T, EC K FE C := by
    intro C hC
    rw [hT] at hC
    simp only [List.mem_cons, List.not_mem_nil, or_false] at hC
    rcases hC with rfl | rfl | rfl | rfl | rfl | rfl | rfl | rfl | rfl | rfl | rfl | rfl | rfl | rfl | rfl | rfl | rfl | rfl | rfl | rfl | rfl | rfl
    · exact ec0
    · exact ec1
    · exact ec2
    · exact ec3
    · exact ec4
    · exact ec5
    · exact ec6
    · exact ec7
    · exact ec8
    · exact ec9
    · exact ec10
    · exact ec11
    · exact ec12
    · exact ec13
    · exact ec14
    · exact ec15
    · exact ec16
    · exact ec17
    · exact ec18
    · exact ec19
    · exact ec20
    · exact ec21
  have fam : EFam K FE (T22 T) := ⟨by rw [hT]; exact hnd, by rw [hT]; exact hnF, by obtain ⟨nm, q, N, bs, sn, sub, ab, col, dd, k0, k1, k2, k3, k5, hF⟩ := lF; unfold PySem.W.clsIn; rw [hF] <;> rfl, tF, spe, tke, ecs⟩
  have M : ∀ i, i < 22 → mg (cnS i) = some (.ref (T i)) := by
    intro i hi
    match i, hi with
    | 0, _ => exact PySem.W.mg_of X G aC0
    | 1, _ => exact PySem.W.mg_of X G aC1
    | 2, _ => exact PySem.W.mg_of X G aC2
    | 3, _ => exact PySem.W.mg_of X G aC3
    | 4, _ => exact PySem.W.mg_of X G aC4
    | 5, _ => exact PySem.W.mg_of X G aC5
    | 6, _ => exact PySem.W.mg_of X G aC6
    | 7, _ => exact PySem.W.mg_of X G aC7
    | 8, _ => exact PySem.W.mg_of X G aC8
    | 9, _ => exact PySem.W.mg_of X G aC9
    | 10, _ => exact PySem.W.mg_of X G aC10
    | 11, _ => exact PySem.W.mg_of X G aC11
    | 12, _ => exact PySem.W.mg_of X G aC12
    | 13, _ => exact PySem.W.mg_of X G aC13
    | 14, _ => exact PySem.W.mg_of X G aC14
    | 15, _ => exact PySem.W.mg_of X G aC15
    | 16, _ => exact PySem.W.mg_of X G aC16
    | 17, _ => exact PySem.W.mg_of X G aC17
    | 18, _ => exact PySem.W.mg_of X G aC18
    | 19, _ => exact PySem.W.mg_of X G aC19
    | 20, _ => exact PySem.W.mg_of X G aC20
    | 21, _ => exact PySem.W.mg_of X G aC21
    | i + 22, hi => exact absurd hi (by omega)
  refine ⟨PySem.W.fnOf "law" "law" (defArgs s_law) (defBody s_law) (defScope s_law) .none kV_la dc_la pm_la an_la cd_la ct_la, fun s v => .of_eq rfl, fun base _ _ => ?_⟩
  have D_ow : Dn l.prog w K mg base 1 "_own" ["given"] spOwnL := ⟨f_ow, _, PySem.W.mg_of X G a_ow, k_ow, b_ow, ok_ownL F_ow (PySem.W.mg_none_of X G z_isinstance) (PySem.W.mg_none_of X G z_list)⟩
  have N_0 : Xn l.prog w K mg base 1 (T 0) ["self", "count"] (spI (T 0) "count") := by
    obtain ⟨oc, od, kV, doc, pm, an, cdv, ct, osl, h1, h2, h3⟩ := fn0
    have F := fun_mk (st := s_BadCount___init__) h1 h2 h3
    exact ⟨g0, _, ec0.oex, in0, ty0, F.binds (ps := ["self", "count"]) fun _ _ _ _ _ _ us hl => match us, hl with | [_, _], _ => rfl, ok_BadCount F ec0 nf0_count⟩
  have N_1 : Xn l.prog w K mg base 1 (T 1) ["self", "line"] (spI (T 1) "line") := by
    obtain ⟨oc, od, kV, doc, pm, an, cdv, ct, osl, h1, h2, h3⟩ := fn1
    have F := fun_mk (st := s_BadLoop___init__) h1 h2 h3
    exact ⟨g1, _, ec1.oex, in1, ty1, F.binds (ps := ["self", "line"]) fun _ _ _ _ _ _ us hl => match us, hl with | [_, _], _ => rfl, ok_BadLoop F ec1 nf1_line⟩
  have N_2 : Xn l.prog w K mg base 1 (T 2) ["self", "name"] (spI (T 2) "name") := by
    obtain ⟨oc, od, kV, doc, pm, an, cdv, ct, osl, h1, h2, h3⟩ := fn2
    have F := fun_mk (st := s_BadName___init__) h1 h2 h3
    exact ⟨g2, _, ec2.oex, in2, ty2, F.binds (ps := ["self", "name"]) fun _ _ _ _ _ _ us hl => match us, hl with | [_, _], _ => rfl, ok_BadName F ec2 nf2_name⟩
  have N_3 : Xn l.prog w K mg base 1 (T 3) ["self", "size"] (spI (T 3) "size") := by
    obtain ⟨oc, od, kV, doc, pm, an, cdv, ct, osl, h1, h2, h3⟩ := fn3
    have F := fun_mk (st := s_BadSize___init__) h1 h2 h3
    exact ⟨g3, _, ec3.oex, in3, ty3, F.binds (ps := ["self", "size"]) fun _ _ _ _ _ _ us hl => match us, hl with | [_, _], _ => rfl, ok_BadSize F ec3 nf3_size⟩
  have N_4 : Xn l.prog w K mg base 1 (T 4) ["self", "line"] (spI (T 4) "line") := by
    obtain ⟨oc, od, kV, doc, pm, an, cdv, ct, osl, h1, h2, h3⟩ := fn4
    have F := fun_mk (st := s_BadTable___init__) h1 h2 h3
    exact ⟨g4, _, ec4.oex, in4, ty4, F.binds (ps := ["self", "line"]) fun _ _ _ _ _ _ us hl => match us, hl with | [_, _], _ => rfl, ok_BadTable F ec4 nf4_line⟩
  have N_5 : Xn l.prog w K mg base 1 (T 5) ["self", "index"] (spI (T 5) "index") := by
    obtain ⟨oc, od, kV, doc, pm, an, cdv, ct, osl, h1, h2, h3⟩ := fn5
    have F := fun_mk (st := s_BadTag___init__) h1 h2 h3
    exact ⟨g5, _, ec5.oex, in5, ty5, F.binds (ps := ["self", "index"]) fun _ _ _ _ _ _ us hl => match us, hl with | [_, _], _ => rfl, ok_BadTag F ec5 nf5_index⟩
  have N_6 : Xn l.prog w K mg base 1 (T 6) ["self", "value"] (spI (T 6) "value") := by
    obtain ⟨oc, od, kV, doc, pm, an, cdv, ct, osl, h1, h2, h3⟩ := fn6
    have F := fun_mk (st := s_BadValue___init__) h1 h2 h3
    exact ⟨g6, _, ec6.oex, in6, ty6, F.binds (ps := ["self", "value"]) fun _ _ _ _ _ _ us hl => match us, hl with | [_, _], _ => rfl, ok_BadValue F ec6 nf6_value⟩
  have N_7 : Xn l.prog w K mg base 2 (T 7) ["self", "names"] (spIo (T 7) "names") := by
    obtain ⟨oc, od, kV, doc, pm, an, cdv, ct, osl, h1, h2, h3⟩ := fn7
    have F := fun_mk (st := s_Barred___init__) h1 h2 h3
    exact ⟨g7, _, ec7.oex, in7, ty7, F.binds (ps := ["self", "names"]) fun _ _ _ _ _ _ us hl => match us, hl with | [_, _], _ => rfl, ok_Barred F ec7 nf7_names D_ow⟩
  have S_8 : Xs K l.prog (T 8) := by
    obtain ⟨oc, od, kV, doc, pm, ct, cl, ccl, an, cld, cdd, osl, csl, ccs, cc, cda, vs, file, tf, h1, h2, h3, h4, h5, h6⟩ := fn8
    refine ⟨g8, ec8.oex, in8, ty8, ⟨⟨oc, od, defArgs s_Doubled___init__, defScope s_Doubled___init__, .none, kV, doc, pm, ct, cl, ccl, an, cld, cdd, osl, csl, ccs, cc, cda, "Doubled.__init__", _, _, _, _, _, vs, file, tf, _, sb_Doubled ▸ h1, h2, h3, h4, h5, h6, rfl, rfl, rfl, nc_Doubled, rfl, rfl, rfl, rfl, rfl, fun L => ⟨_, rfl⟩, fun L => rfl, fun L => rfl, fun u => rfl⟩, htop, opq, sup_up ec8 lF uF, ec8.sub _ (by decide +kernel), ?_⟩⟩
    show PySem.W.mroIn K C8 (.ref C8) = some true
    rw [ec8.cl.mro]; simp
  have N_9 : Xn l.prog w K mg base 2 (T 9) ["self", "row"] (spIo (T 9) "row") := by
    obtain ⟨oc, od, kV, doc, pm, an, cdv, ct, osl, h1, h2, h3⟩ := fn9
    have F := fun_mk (st := s_EmptySum___init__) h1 h2 h3
    exact ⟨g9, _, ec9.oex, in9, ty9, F.binds (ps := ["self", "row"]) fun _ _ _ _ _ _ us hl => match us, hl with | [_, _], _ => rfl, ok_EmptySum F ec9 nf9_row D_ow⟩
  have N_10 : Xn l.prog w K mg base 1 (T 10) ["self", "name"] (spI (T 10) "name") := by
    obtain ⟨oc, od, kV, doc, pm, an, cdv, ct, osl, h1, h2, h3⟩ := fn10
    have F := fun_mk (st := s_NoKind___init__) h1 h2 h3
    exact ⟨g10, _, ec10.oex, in10, ty10, F.binds (ps := ["self", "name"]) fun _ _ _ _ _ _ us hl => match us, hl with | [_, _], _ => rfl, ok_NoKind F ec10 nf10_name⟩
  have N_11 : Xn l.prog w K mg base 1 (T 11) ["self", "name"] (spI (T 11) "name") := by
    obtain ⟨oc, od, kV, doc, pm, an, cdv, ct, osl, h1, h2, h3⟩ := fn11
    have F := fun_mk (st := s_NoLoop___init__) h1 h2 h3
    exact ⟨g11, _, ec11.oex, in11, ty11, F.binds (ps := ["self", "name"]) fun _ _ _ _ _ _ us hl => match us, hl with | [_, _], _ => rfl, ok_NoLoop F ec11 nf11_name⟩
  have N_12 : Xn l.prog w K mg base 1 (T 12) ["self", "name"] (spI (T 12) "name") := by
    obtain ⟨oc, od, kV, doc, pm, an, cdv, ct, osl, h1, h2, h3⟩ := fn12
    have F := fun_mk (st := s_NoNormal___init__) h1 h2 h3
    exact ⟨g12, _, ec12.oex, in12, ty12, F.binds (ps := ["self", "name"]) fun _ _ _ _ _ _ us hl => match us, hl with | [_, _], _ => rfl, ok_NoNormal F ec12 nf12_name⟩
  have N_13 : Xn l.prog w K mg base 1 (T 13) ["self", "name"] (spI (T 13) "name") := by
    obtain ⟨oc, od, kV, doc, pm, an, cdv, ct, osl, h1, h2, h3⟩ := fn13
    have F := fun_mk (st := s_NoRule___init__) h1 h2 h3
    exact ⟨g13, _, ec13.oex, in13, ty13, F.binds (ps := ["self", "name"]) fun _ _ _ _ _ _ us hl => match us, hl with | [_, _], _ => rfl, ok_NoRule F ec13 nf13_name⟩
  have N_14 : Xn l.prog w K mg base 1 (T 14) ["self", "name"] (spI (T 14) "name") := by
    obtain ⟨oc, od, kV, doc, pm, an, cdv, ct, osl, h1, h2, h3⟩ := fn14
    have F := fun_mk (st := s_NoTag___init__) h1 h2 h3
    exact ⟨g14, _, ec14.oex, in14, ty14, F.binds (ps := ["self", "name"]) fun _ _ _ _ _ _ us hl => match us, hl with | [_, _], _ => rfl, ok_NoTag F ec14 nf14_name⟩
  have N_15 : Xn l.prog w K mg base 2 (T 15) ["self", "row"] (spIo (T 15) "row") := by
    obtain ⟨oc, od, kV, doc, pm, an, cdv, ct, osl, h1, h2, h3⟩ := fn15
    have F := fun_mk (st := s_NotAlike___init__) h1 h2 h3
    exact ⟨g15, _, ec15.oex, in15, ty15, F.binds (ps := ["self", "row"]) fun _ _ _ _ _ _ us hl => match us, hl with | [_, _], _ => rfl, ok_NotAlike F ec15 nf15_row D_ow⟩
  have N_16 : Xn l.prog w K mg base 1 (T 16) ["self", "name"] (spI (T 16) "name") := by
    obtain ⟨oc, od, kV, doc, pm, an, cdv, ct, osl, h1, h2, h3⟩ := fn16
    have F := fun_mk (st := s_NotHere___init__) h1 h2 h3
    exact ⟨g16, _, ec16.oex, in16, ty16, F.binds (ps := ["self", "name"]) fun _ _ _ _ _ _ us hl => match us, hl with | [_, _], _ => rfl, ok_NotHere F ec16 nf16_name⟩
  have S_17 : Xs K l.prog (T 17) := by
    obtain ⟨oc, od, kV, doc, pm, ct, cl, ccl, an, cld, cdd, osl, csl, ccs, cc, cda, vs, file, tf, h1, h2, h3, h4, h5, h6⟩ := fn17
    refine ⟨g17, ec17.oex, in17, ty17, ⟨⟨oc, od, defArgs s_NothingToUndo___init__, defScope s_NothingToUndo___init__, .none, kV, doc, pm, ct, cl, ccl, an, cld, cdd, osl, csl, ccs, cc, cda, "NothingToUndo.__init__", _, _, _, _, _, vs, file, tf, _, sb_NothingToUndo ▸ h1, h2, h3, h4, h5, h6, rfl, rfl, rfl, nc_NothingToUndo, rfl, rfl, rfl, rfl, rfl, fun L => ⟨_, rfl⟩, fun L => rfl, fun L => rfl, fun u => rfl⟩, htop, opq, sup_up ec17 lF uF, ec17.sub _ (by decide +kernel), ?_⟩⟩
    show PySem.W.mroIn K C17 (.ref C17) = some true
    rw [ec17.cl.mro]; simp
  have S_18 : Xs K l.prog (T 18) := by
    obtain ⟨oc, od, kV, doc, pm, ct, cl, ccl, an, cld, cdd, osl, csl, ccs, cc, cda, vs, file, tf, h1, h2, h3, h4, h5, h6⟩ := fn18
    refine ⟨g18, ec18.oex, in18, ty18, ⟨⟨oc, od, defArgs s_NotNeighbours___init__, defScope s_NotNeighbours___init__, .none, kV, doc, pm, ct, cl, ccl, an, cld, cdd, osl, csl, ccs, cc, cda, "NotNeighbours.__init__", _, _, _, _, _, vs, file, tf, _, sb_NotNeighbours ▸ h1, h2, h3, h4, h5, h6, rfl, rfl, rfl, nc_NotNeighbours, rfl, rfl, rfl, rfl, rfl, fun L => ⟨_, rfl⟩, fun L => rfl, fun L => rfl, fun u => rfl⟩, htop, opq, sup_up ec18 lF uF, ec18.sub _ (by decide +kernel), ?_⟩⟩
    show PySem.W.mroIn K C18 (.ref C18) = some true
    rw [ec18.cl.mro]; simp
  have S_19 : Xs K l.prog (T 19) := by
    obtain ⟨oc, od, kV, doc, pm, ct, cl, ccl, an, cld, cdd, osl, csl, ccs, cc, cda, vs, file, tf, h1, h2, h3, h4, h5, h6⟩ := fn19
    refine ⟨g19, ec19.oex, in19, ty19, ⟨⟨oc, od, defArgs s_OtherTags___init__, defScope s_OtherTags___init__, .none, kV, doc, pm, ct, cl, ccl, an, cld, cdd, osl, csl, ccs, cc, cda, "OtherTags.__init__", _, _, _, _, _, vs, file, tf, _, sb_OtherTags ▸ h1, h2, h3, h4, h5, h6, rfl, rfl, rfl, nc_OtherTags, rfl, rfl, rfl, rfl, rfl, fun L => ⟨_, rfl⟩, fun L => rfl, fun L => rfl, fun u => rfl⟩, htop, opq, sup_up ec19 lF uF, ec19.sub _ (by decide +kernel), ?_⟩⟩
    show PySem.W.mroIn K C19 (.ref C19) = some true
    rw [ec19.cl.mro]; simp
  have N_20 : Xn l.prog w K mg base 1 (T 20) ["self", "left", "right"] (spI2 (T 20) "left" "right") := by
    obtain ⟨oc, od, kV, doc, pm, an, cdv, ct, osl, h1, h2, h3⟩ := fn20
    have F := fun_mk (st := s_NotClosed___init__) h1 h2 h3
    exact ⟨g20, _, ec20.oex, in20, ty20, F.binds (ps := ["self", "left", "right"]) fun _ _ _ _ _ _ us hl => match us, hl with | [_, _, _], _ => rfl, ok_NotClosed F ec20 nf20_left nf20_right⟩
  have S_21 : Xs K l.prog (T 21) := by
    obtain ⟨oc, od, kV, doc, pm, ct, cl, ccl, an, cld, cdd, osl, csl, ccs, cc, cda, vs, file, tf, h1, h2, h3, h4, h5, h6⟩ := fn21
    refine ⟨g21, ec21.oex, in21, ty21, ⟨⟨oc, od, defArgs s_TooMany___init__, defScope s_TooMany___init__, .none, kV, doc, pm, ct, cl, ccl, an, cld, cdd, osl, csl, ccs, cc, cda, "TooMany.__init__", _, _, _, _, _, vs, file, tf, _, sb_TooMany ▸ h1, h2, h3, h4, h5, h6, rfl, rfl, rfl, nc_TooMany, rfl, rfl, rfl, rfl, rfl, fun L => ⟨_, rfl⟩, fun L => rfl, fun L => rfl, fun u => rfl⟩, htop, opq, sup_up ec21 lF uF, ec21.sub _ (by decide +kernel), ?_⟩⟩
    show PySem.W.mroIn K C21 (.ref C21) = some true
    rw [ec21.cl.mro]; simp
  have D_pe : Dn l.prog w K mg base 1 "_law_pen" ["script"] (spPen K) := ⟨f_pe, _, PySem.W.mg_of X G a_pe, k_pe, b_pe, ok_pen F_pe (PySem.W.mg_none_of X G z_list)⟩
  have D_dr : Dn l.prog w K mg base 1 "_law_draw" ["pen", "span"] spDraw := ⟨f_dr, _, PySem.W.mg_of X G a_dr, k_dr, b_dr, ok_draw F_dr (PySem.W.mg_none_of X G z_int) (PySem.W.mg_none_of X G z_len) (PySem.W.mg_none_of X G z_abs)⟩
  have D_pi : Dn l.prog w K mg base 2 "_law_pick" ["pen", "options"] spPickS := ⟨f_pi, _, PySem.W.mg_of X G a_pi, k_pi, b_pi, ok_pickS F_pi D_dr (PySem.W.mg_none_of X G z_len)⟩
  have D_sh : Dn l.prog w K mg base 2 "_law_shuffled" ["pen", "items"] spShuf := ⟨f_sh, _, PySem.W.mg_of X G a_sh, k_sh, b_sh, ok_shuffled F_sh D_dr (PySem.W.mg_none_of X G z_len) (PySem.W.mg_none_of X G z_list)⟩
  have D_ba : Dn l.prog w K mg base 1 "_law_barred" [] spBar := ⟨f_ba, _, PySem.W.mg_of X G a_ba, k_ba, b_ba, ok_barred F_ba⟩
  have D_nm : Dn l.prog w K mg base 3 "_law_names" ["pen", "many"] spNames := ⟨f_nm, _, PySem.W.mg_of X G a_nm, k_nm, b_nm, ok_names F_nm D_dr D_pi D_ba D_sh (PySem.W.mg_none_of X G z_int) (PySem.W.mg_none_of X G z_range) (PySem.W.mg_none_of X G z_enumerate)⟩
  have D_cs : Dn l.prog w K mg base 1 "_law_classes" ["e"] (spClsN (T22 T)) := ⟨f_cs, _, PySem.W.mg_of X G a_cs, k_cs, b_cs, ok_classes F_cs fam M (PySem.W.mg_none_of X G z_isinstance) (PySem.W.mg_none_of X G z_int)⟩
  have D_io : Dn l.prog w K mg base 2 "_law_is_one" ["e", "kind"] (spIsOne (T22 T)) := ⟨f_io, _, PySem.W.mg_of X G a_io, k_io, b_io, ok_isone F_io fam (PySem.W.mg_of X G aF) (PySem.W.mg_none_of X G z_isinstance) (PySem.W.mg_none_of X G z_ValueError) D_cs⟩
  have D_nu : Dn l.prog w K mg base 3 "_law_numbered" ["number"] (spErrs (T22 T)) := ⟨f_nu, _, PySem.W.mg_of X G a_nu, k_nu, b_nu, ok_numbered F_nu fam M N_1 nf1_line N_4 nf4_line N_5 nf5_index N_6 nf6_value N_3 nf3_size N_0 nf0_count⟩
  have D_nd : Dn l.prog w K mg base 3 "_law_named" ["text"] (spErrs (T22 T)) := ⟨f_nd, _, PySem.W.mg_of X G a_nd, k_nd, b_nd, ok_named F_nd fam M N_13 nf13_name N_10 nf10_name N_12 nf12_name N_16 nf16_name N_14 nf14_name N_2 nf2_name N_11 nf11_name⟩
  have D_li : Dn l.prog w K mg base 4 "_law_listed" ["pen"] spPenB := ⟨f_li, _, PySem.W.mg_of X G a_li, k_li, b_li, ok_listed F_li fam M D_dr D_nm D_io N_9 nf9_row N_15 nf15_row N_7 nf7_names N_20 nf20_left nf20_right S_19 S_8 S_18 S_21 S_17 (PySem.W.mg_none_of X G z_len) (PySem.W.mg_none_of X G z_list) (PySem.W.mg_none_of X G z_super) (PySem.W.mg_none_of X G z_isinstance)⟩
  exact ok_law F_la fam D_pe D_dr D_nm D_io D_nu D_nd D_li (PySem.W.mg_none_of X G z_range) (PySem.W.mg_none_of X G z_isinstance) (PySem.W.mg_none_of X G z_int)
end Fp

namespace Fp
open PySem PySem.Spec PyProof.Rows L2
local macro_rules | `(tactic| walk_at "rd") => `(tactic| simp only [cxK, cxKn, tRet, tRetN, rIntI, rIntB, rLenL, rListL, rListT, rAbs, tDisp, tPairs, tC, tCB, tCons, tNil, tSl, tVar, tNoPart, tPart, rSlL, tOp, tAsg, gName, tIfS, tDrop, tTest, tAnd, tOr, Evl.tCut, tNot, tB, rI0, rI, rIxL, rIxT, rIxD, tDGet, sDPut, tLst, tTup, tBM, tBM0, tPar, tPar3, rAppend, rPopAt, rPop, rExtend, rTupL, tCall, tNext, rAll, rOwnIn, rOwn2, rCat, lc_iL, lc_iT, lc_iK, lc_iR, lc_iE, fr_iL, fr_iT, fr_iR, tYes, rIn, rEq, rNe, gTup, gCons, gNil, wipe, tMeth, tFld, sFld, tMake, tProp, tIf, tAndV, tOrV, tNotV, tTru, rIsi, rSum, tRevL, rU, tUn, rIxS, iEnum, tMkE, tMkS, tFldE, if_true, if_false, Bool.false_eq_true, List.map_cons, List.map_nil, List.nil_append, List.append_nil, List.cons_append, List.getElem?_cons_zero, List.getElem?_cons_succ, Option.some.injEq, exists_and_left, exists_eq_left', exists_eq_left, List.cons.injEq, and_true, true_and, V.ref.injEq, V.int.injEq, V.str.injEq, V.bl.injEq, List.set_cons_zero, List.set_cons_succ])
end Fp
open PySem PySem.W PyProof.Rows
set_option maxHeartbeats 0 in
theorem PySem.Challenge.cw_foldplans_k90_errors_holds : PySem.Challenge.rw_foldplans_k90_errors.Holds := by
  w_on; o_law; k_head; (case hw => w_witness2)
  k_fill
  refine L2.walk_of (l := PySem.Challenge.rw_foldplans_k90_errors) (n := 63) (k := 5) (x := "script") (CX := fun _ => L2.CX0) (sp := fun w => Fp.spLaw _) rfl (by decide) rfl ⟨rfl, by decide, by decide⟩ (fun w h Y => PySem.W.kIn_of Y) ?F (fun _ _ a ns hl _ hS => ⟨a, ns, rfl, hS, hl, fun _ => rfl⟩) (fun _ _ _ _ _ h => h)
  case F =>
    intro w mg fa h KX G hmg
    refine' Fp.all_mk KX G hmg ?a_ow ?l_ow ?c_ow ?k_ow ?a_pe ?l_pe ?c_pe ?k_pe ?a_dr ?l_dr ?c_dr ?k_dr ?a_pi ?l_pi ?c_pi ?k_pi ?a_sh ?l_sh ?c_sh ?k_sh ?a_ba ?l_ba ?c_ba ?k_ba ?a_nm ?l_nm ?c_nm ?k_nm ?a_cs ?l_cs ?c_cs ?k_cs ?a_nu ?l_nu ?c_nu ?k_nu ?a_nd ?l_nd ?c_nd ?k_nd ?a_io ?l_io ?c_io ?k_io ?a_li ?l_li ?c_li ?k_li ?a_la ?l_la ?c_la ?k_la ?aF ?lF ?uF ?tF ?opq ?spe ?tke ?aC0 ?ec0 ?in0 ?ty0 ?fn0 ?nf0_count ?aC1 ?ec1 ?in1 ?ty1 ?fn1 ?nf1_line ?aC2 ?ec2 ?in2 ?ty2 ?fn2 ?nf2_name ?aC3 ?ec3 ?in3 ?ty3 ?fn3 ?nf3_size ?aC4 ?ec4 ?in4 ?ty4 ?fn4 ?nf4_line ?aC5 ?ec5 ?in5 ?ty5 ?fn5 ?nf5_index ?aC6 ?ec6 ?in6 ?ty6 ?fn6 ?nf6_value ?aC7 ?ec7 ?in7 ?ty7 ?fn7 ?nf7_names ?aC8 ?ec8 ?in8 ?ty8 ?fn8 ?aC9 ?ec9 ?in9 ?ty9 ?fn9 ?nf9_row ?aC10 ?ec10 ?in10 ?ty10 ?fn10 ?nf10_name ?aC11 ?ec11 ?in11 ?ty11 ?fn11 ?nf11_name ?aC12 ?ec12 ?in12 ?ty12 ?fn12 ?nf12_name ?aC13 ?ec13 ?in13 ?ty13 ?fn13 ?nf13_name ?aC14 ?ec14 ?in14 ?ty14 ?fn14 ?nf14_name ?aC15 ?ec15 ?in15 ?ty15 ?fn15 ?nf15_row ?aC16 ?ec16 ?in16 ?ty16 ?fn16 ?nf16_name ?aC17 ?ec17 ?in17 ?ty17 ?fn17 ?aC18 ?ec18 ?in18 ?ty18 ?fn18 ?aC19 ?ec19 ?in19 ?ty19 ?fn19 ?aC20 ?ec20 ?in20 ?ty20 ?fn20 ?nf20_left ?nf20_right ?aC21 ?ec21 ?in21 ?ty21 ?fn21 ?z_list ?z_isinstance ?z_range ?z_int ?z_len ?z_abs ?z_enumerate ?z_super ?z_ValueError ?hnd ?hnF ?htop
    (case aF => k_is)
    (case aC0 => k_is)
    (case aC1 => k_is)
    (case aC2 => k_is)
    (case aC3 => k_is)
    (case aC4 => k_is)
    (case aC5 => k_is)
    (case aC6 => k_is)
    (case aC7 => k_is)
    (case aC8 => k_is)
    (case aC9 => k_is)
    (case aC10 => k_is)
    (case aC11 => k_is)
    (case aC12 => k_is)
    (case aC13 => k_is)
    (case aC14 => k_is)
    (case aC15 => k_is)
    (case aC16 => k_is)
    (case aC17 => k_is)
    (case aC18 => k_is)
    (case aC19 => k_is)
    (case aC20 => k_is)
    (case aC21 => k_is)
    (case a_ow => k_is)
    (case l_ow => k_is)
    (case c_ow => k_is)
    (case k_ow => k_is)
    (case a_pe => k_is)
    (case l_pe => k_is)
    (case c_pe => k_is)
    (case k_pe => k_is)
    (case a_dr => k_is)
    (case l_dr => k_is)
    (case c_dr => k_is)
    (case k_dr => k_is)
    (case a_pi => k_is)
    (case l_pi => k_is)
    (case c_pi => k_is)
    (case k_pi => k_is)
    (case a_sh => k_is)
    (case l_sh => k_is)
    (case c_sh => k_is)
    (case k_sh => k_is)
    (case a_ba => k_is)
    (case l_ba => k_is)
    (case c_ba => k_is)
    (case k_ba => k_is)
    (case a_nm => k_is)
    (case l_nm => k_is)
    (case c_nm => k_is)
    (case k_nm => k_is)
    (case a_cs => k_is)
    (case l_cs => k_is)
    (case c_cs => k_is)
    (case k_cs => k_is)
    (case a_nu => k_is)
    (case l_nu => k_is)
    (case c_nu => k_is)
    (case k_nu => k_is)
    (case a_nd => k_is)
    (case l_nd => k_is)
    (case c_nd => k_is)
    (case k_nd => k_is)
    (case a_io => k_is)
    (case l_io => k_is)
    (case c_io => k_is)
    (case k_io => k_is)
    (case a_li => k_is)
    (case l_li => k_is)
    (case c_li => k_is)
    (case k_li => k_is)
    (case a_la => k_is)
    (case l_la => k_is)
    (case c_la => k_is)
    (case k_la => k_is)
    (case lF => (repeat' apply Exists.intro); k_is)
    (case uF => k_is)
    (case tF => k_is)
    (case opq => k_is)
    (case spe => k_is)
    (case tke => k_is)
    (case ec0 => refine' Fp.EC.mk (Fp.ClF.mk ?h1) ?h2 ?h3 ?h4 ?h5 ?h6; (case h1 => (repeat' apply Exists.intro); k_is); (case h2 => k_is); (case h3 => k_is); (case h4 => k_is); (case h5 => k_is); (case h6 => k_is))
    (case in0 => k_is)
    (case ty0 => k_is)
    (case fn0 => (repeat' apply Exists.intro); refine' ⟨?h1, ?h2, ?h3⟩; (case h1 => k_is); (case h2 => k_is); (case h3 => k_is))
    (case nf0_count => k_is)
    (case ec1 => refine' Fp.EC.mk (Fp.ClF.mk ?h1) ?h2 ?h3 ?h4 ?h5 ?h6; (case h1 => (repeat' apply Exists.intro); k_is); (case h2 => k_is); (case h3 => k_is); (case h4 => k_is); (case h5 => k_is); (case h6 => k_is))
    (case in1 => k_is)
    (case ty1 => k_is)
    (case fn1 => (repeat' apply Exists.intro); refine' ⟨?h1, ?h2, ?h3⟩; (case h1 => k_is); (case h2 => k_is); (case h3 => k_is))
    (case nf1_line => k_is)
    (case ec2 => refine' Fp.EC.mk (Fp.ClF.mk ?h1) ?h2 ?h3 ?h4 ?h5 ?h6; (case h1 => (repeat' apply Exists.intro); k_is); (case h2 => k_is); (case h3 => k_is); (case h4 => k_is); (case h5 => k_is); (case h6 => k_is))
    (case in2 => k_is)
    (case ty2 => k_is)
    (case fn2 => (repeat' apply Exists.intro); refine' ⟨?h1, ?h2, ?h3⟩; (case h1 => k_is); (case h2 => k_is); (case h3 => k_is))
    (case nf2_name => k_is)
    (case ec3 => refine' Fp.EC.mk (Fp.ClF.mk ?h1) ?h2 ?h3 ?h4 ?h5 ?h6; (case h1 => (repeat' apply Exists.intro); k_is); (case h2 => k_is); (case h3 => k_is); (case h4 => k_is); (case h5 => k_is); (case h6 => k_is))
    (case in3 => k_is)
    (case ty3 => k_is)
    (case fn3 => (repeat' apply Exists.intro); refine' ⟨?h1, ?h2, ?h3⟩; (case h1 => k_is); (case h2 => k_is); (case h3 => k_is))
    (case nf3_size => k_is)
    (case ec4 => refine' Fp.EC.mk (Fp.ClF.mk ?h1) ?h2 ?h3 ?h4 ?h5 ?h6; (case h1 => (repeat' apply Exists.intro); k_is); (case h2 => k_is); (case h3 => k_is); (case h4 => k_is); (case h5 => k_is); (case h6 => k_is))
    (case in4 => k_is)
    (case ty4 => k_is)
    (case fn4 => (repeat' apply Exists.intro); refine' ⟨?h1, ?h2, ?h3⟩; (case h1 => k_is); (case h2 => k_is); (case h3 => k_is))
    (case nf4_line => k_is)
    (case ec5 => refine' Fp.EC.mk (Fp.ClF.mk ?h1) ?h2 ?h3 ?h4 ?h5 ?h6; (case h1 => (repeat' apply Exists.intro); k_is); (case h2 => k_is); (case h3 => k_is); (case h4 => k_is); (case h5 => k_is); (case h6 => k_is))
    (case in5 => k_is)
    (case ty5 => k_is)
    (case fn5 => (repeat' apply Exists.intro); refine' ⟨?h1, ?h2, ?h3⟩; (case h1 => k_is); (case h2 => k_is); (case h3 => k_is))
    (case nf5_index => k_is)
    (case ec6 => refine' Fp.EC.mk (Fp.ClF.mk ?h1) ?h2 ?h3 ?h4 ?h5 ?h6; (case h1 => (repeat' apply Exists.intro); k_is); (case h2 => k_is); (case h3 => k_is); (case h4 => k_is); (case h5 => k_is); (case h6 => k_is))
    (case in6 => k_is)
    (case ty6 => k_is)
    (case fn6 => (repeat' apply Exists.intro); refine' ⟨?h1, ?h2, ?h3⟩; (case h1 => k_is); (case h2 => k_is); (case h3 => k_is))
    (case nf6_value => k_is)
    (case ec7 => refine' Fp.EC.mk (Fp.ClF.mk ?h1) ?h2 ?h3 ?h4 ?h5 ?h6; (case h1 => (repeat' apply Exists.intro); k_is); (case h2 => k_is); (case h3 => k_is); (case h4 => k_is); (case h5 => k_is); (case h6 => k_is))
    (case in7 => k_is)
    (case ty7 => k_is)
    (case fn7 => (repeat' apply Exists.intro); refine' ⟨?h1, ?h2, ?h3⟩; (case h1 => k_is); (case h2 => k_is); (case h3 => k_is))
    (case nf7_names => k_is)
    (case ec8 => refine' Fp.EC.mk (Fp.ClF.mk ?h1) ?h2 ?h3 ?h4 ?h5 ?h6; (case h1 => (repeat' apply Exists.intro); k_is); (case h2 => k_is); (case h3 => k_is); (case h4 => k_is); (case h5 => k_is); (case h6 => k_is))
    (case in8 => k_is)
    (case ty8 => k_is)
    (case fn8 => (repeat' apply Exists.intro); refine' ⟨?h1, ?h2, ?h3, ?h4, ?h5, ?h6⟩; (case h1 => k_is); (case h2 => k_is); (case h3 => k_is); (case h4 => k_is); (case h5 => rfl); (case h6 => first | rfl | decide +kernel))
    (case ec9 => refine' Fp.EC.mk (Fp.ClF.mk ?h1) ?h2 ?h3 ?h4 ?h5 ?h6; (case h1 => (repeat' apply Exists.intro); k_is); (case h2 => k_is); (case h3 => k_is); (case h4 => k_is); (case h5 => k_is); (case h6 => k_is))
    (case in9 => k_is)
    (case ty9 => k_is)
    (case fn9 => (repeat' apply Exists.intro); refine' ⟨?h1, ?h2, ?h3⟩; (case h1 => k_is); (case h2 => k_is); (case h3 => k_is))
    (case nf9_row => k_is)
    (case ec10 => refine' Fp.EC.mk (Fp.ClF.mk ?h1) ?h2 ?h3 ?h4 ?h5 ?h6; (case h1 => (repeat' apply Exists.intro); k_is); (case h2 => k_is); (case h3 => k_is); (case h4 => k_is); (case h5 => k_is); (case h6 => k_is))
    (case in10 => k_is)
    (case ty10 => k_is)
    (case fn10 => (repeat' apply Exists.intro); refine' ⟨?h1, ?h2, ?h3⟩; (case h1 => k_is); (case h2 => k_is); (case h3 => k_is))
    (case nf10_name => k_is)
    (case ec11 => refine' Fp.EC.mk (Fp.ClF.mk ?h1) ?h2 ?h3 ?h4 ?h5 ?h6; (case h1 => (repeat' apply Exists.intro); k_is); (case h2 => k_is); (case h3 => k_is); (case h4 => k_is); (case h5 => k_is); (case h6 => k_is))
    (case in11 => k_is)
    (case ty11 => k_is)
    (case fn11 => (repeat' apply Exists.intro); refine' ⟨?h1, ?h2, ?h3⟩; (case h1 => k_is); (case h2 => k_is); (case h3 => k_is))
    (case nf11_name => k_is)
    (case ec12 => refine' Fp.EC.mk (Fp.ClF.mk ?h1) ?h2 ?h3 ?h4 ?h5 ?h6; (case h1 => (repeat' apply Exists.intro); k_is); (case h2 => k_is); (case h3 => k_is); (case h4 => k_is); (case h5 => k_is); (case h6 => k_is))
    (case in12 => k_is)
    (case ty12 => k_is)
    (case fn12 => (repeat' apply Exists.intro); refine' ⟨?h1, ?h2, ?h3⟩; (case h1 => k_is); (case h2 => k_is); (case h3 => k_is))
    (case nf12_name => k_is)
    (case ec13 => refine' Fp.EC.mk (Fp.ClF.mk ?h1) ?h2 ?h3 ?h4 ?h5 ?h6; (case h1 => (repeat' apply Exists.intro); k_is); (case h2 => k_is); (case h3 => k_is); (case h4 => k_is); (case h5 => k_is); (case h6 => k_is))
    (case in13 => k_is)
    (case ty13 => k_is)
    (case fn13 => (repeat' apply Exists.intro); refine' ⟨?h1, ?h2, ?h3⟩; (case h1 => k_is); (case h2 => k_is); (case h3 => k_is))
    (case nf13_name => k_is)
    (case ec14 => refine' Fp.EC.mk (Fp.ClF.mk ?h1) ?h2 ?h3 ?h4 ?h5 ?h6; (case h1 => (repeat' apply Exists.intro); k_is); (case h2 => k_is); (case h3 => k_is); (case h4 => k_is); (case h5 => k_is); (case h6 => k_is))
    (case in14 => k_is)
    (case ty14 => k_is)
    (case fn14 => (repeat' apply Exists.intro); refine' ⟨?h1, ?h2, ?h3⟩; (case h1 => k_is); (case h2 => k_is); (case h3 => k_is))
    (case nf14_name => k_is)
    (case ec15 => refine' Fp.EC.mk (Fp.ClF.mk ?h1) ?h2 ?h3 ?h4 ?h5 ?h6; (case h1 => (repeat' apply Exists.intro); k_is); (case h2 => k_is); (case h3 => k_is); (case h4 => k_is); (case h5 => k_is); (case h6 => k_is))
    (case in15 => k_is)
    (case ty15 => k_is)
    (case fn15 => (repeat' apply Exists.intro); refine' ⟨?h1, ?h2, ?h3⟩; (case h1 => k_is); (case h2 => k_is); (case h3 => k_is))
    (case nf15_row => k_is)
    (case ec16 => refine' Fp.EC.mk (Fp.ClF.mk ?h1) ?h2 ?h3 ?h4 ?h5 ?h6; (case h1 => (repeat' apply Exists.intro); k_is); (case h2 => k_is); (case h3 => k_is); (case h4 => k_is); (case h5 => k_is); (case h6 => k_is))
    (case in16 => k_is)
    (case ty16 => k_is)
    (case fn16 => (repeat' apply Exists.intro); refine' ⟨?h1, ?h2, ?h3⟩; (case h1 => k_is); (case h2 => k_is); (case h3 => k_is))
    (case nf16_name => k_is)
    (case ec17 => refine' Fp.EC.mk (Fp.ClF.mk ?h1) ?h2 ?h3 ?h4 ?h5 ?h6; (case h1 => (repeat' apply Exists.intro); k_is); (case h2 => k_is); (case h3 => k_is); (case h4 => k_is); (case h5 => k_is); (case h6 => k_is))
    (case in17 => k_is)
    (case ty17 => k_is)
    (case fn17 => (repeat' apply Exists.intro); refine' ⟨?h1, ?h2, ?h3, ?h4, ?h5, ?h6⟩; (case h1 => k_is); (case h2 => k_is); (case h3 => k_is); (case h4 => k_is); (case h5 => rfl); (case h6 => first | rfl | decide +kernel))
    (case ec18 => refine' Fp.EC.mk (Fp.ClF.mk ?h1) ?h2 ?h3 ?h4 ?h5 ?h6; (case h1 => (repeat' apply Exists.intro); k_is); (case h2 => k_is); (case h3 => k_is); (case h4 => k_is); (case h5 => k_is); (case h6 => k_is))
    (case in18 => k_is)
    (case ty18 => k_is)
    (case fn18 => (repeat' apply Exists.intro); refine' ⟨?h1, ?h2, ?h3, ?h4, ?h5, ?h6⟩; (case h1 => k_is); (case h2 => k_is); (case h3 => k_is); (case h4 => k_is); (case h5 => rfl); (case h6 => first | rfl | decide +kernel))
    (case ec19 => refine' Fp.EC.mk (Fp.ClF.mk ?h1) ?h2 ?h3 ?h4 ?h5 ?h6; (case h1 => (repeat' apply Exists.intro); k_is); (case h2 => k_is); (case h3 => k_is); (case h4 => k_is); (case h5 => k_is); (case h6 => k_is))
    (case in19 => k_is)
    (case ty19 => k_is)
    (case fn19 => (repeat' apply Exists.intro); refine' ⟨?h1, ?h2, ?h3, ?h4, ?h5, ?h6⟩; (case h1 => k_is); (case h2 => k_is); (case h3 => k_is); (case h4 => k_is); (case h5 => rfl); (case h6 => first | rfl | decide +kernel))
    (case ec20 => refine' Fp.EC.mk (Fp.ClF.mk ?h1) ?h2 ?h3 ?h4 ?h5 ?h6; (case h1 => (repeat' apply Exists.intro); k_is); (case h2 => k_is); (case h3 => k_is); (case h4 => k_is); (case h5 => k_is); (case h6 => k_is))
    (case in20 => k_is)
    (case ty20 => k_is)
    (case fn20 => (repeat' apply Exists.intro); refine' ⟨?h1, ?h2, ?h3⟩; (case h1 => k_is); (case h2 => k_is); (case h3 => k_is))
    (case nf20_left => k_is)
    (case nf20_right => k_is)
    (case ec21 => refine' Fp.EC.mk (Fp.ClF.mk ?h1) ?h2 ?h3 ?h4 ?h5 ?h6; (case h1 => (repeat' apply Exists.intro); k_is); (case h2 => k_is); (case h3 => k_is); (case h4 => k_is); (case h5 => k_is); (case h6 => k_is))
    (case in21 => k_is)
    (case ty21 => k_is)
    (case fn21 => (repeat' apply Exists.intro); refine' ⟨?h1, ?h2, ?h3, ?h4, ?h5, ?h6⟩; (case h1 => k_is); (case h2 => k_is); (case h3 => k_is); (case h4 => k_is); (case h5 => rfl); (case h6 => first | rfl | decide +kernel))
    (case z_list => k_is)
    (case z_isinstance => k_is)
    (case z_range => k_is)
    (case z_int => k_is)
    (case z_len => k_is)
    (case z_abs => k_is)
    (case z_enumerate => k_is)
    (case z_super => k_is)
    (case z_ValueError => k_is)
    (case hnd => decide)
    (case hnF => decide)
    (case htop => first | rfl | decide +kernel)
