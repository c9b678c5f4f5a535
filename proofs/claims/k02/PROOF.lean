import PyProof.Rows.All
import Wide.All
import OpenK.AllK
import Wide.FinOn
import HandS.ForMost
import HandS.Wide
import HandS.Conv
import HandS.Evl
import KE.KDictWalk
import HandS.SlotsOwn
import HandS.Property
import HandS.Defaults
import HandS.More
import HandS.Codes
import PySem.Challenge.RW_foldplans_k02_whole_closures
set_option Elab.async false
set_option linter.all false
set_option maxRecDepth 100000
set_option maxHeartbeats 4000000
/-! what the laws of this program share -/
namespace Fp
open PySem PySem.Spec PyProof.Rows L2

/-! ### defs of the text, by name -/
def Dn (P : Program) (w : World) (K : PySem.W.Frag) (mg : Str → Option Value) (base : Heap) (k : Nat) (x : Str) (ps : List Str) (sp : Sp) : Prop :=
  ∃ f fd, mg x = some (.ref f) ∧ PySem.W.keepIn K (.ref f) = true ∧ Binds K fd ps [] ∧ FnOk P w K mg base CX0 k f fd ps sp
section
variable {X : Cx} {k : Nat} {x : Str} {ps : List Str} {sp : Sp} {p pos : Pos} {e : Expr} {es : List Expr} {t : TA}
theorem pd (D : Dn X.prog X.w X.K X.mg X.base k x ps sp) (hr : Room k X.A) (hg : Gl X x) (ha : PA X (e :: es) t) (hdb : (x == ("__debug__" : Str)) = false := by decide)
    (he : starEach (e :: es) X.env = (false, eval e X.env) :: starEach es X.env := by rfl) (hpl : (backTo pos (starEach es X.env)).any (·.1) = false := by rfl) :
    PE X (.Call (.Name x p) (e :: es) [] pos) (tCall sp [] E0 t) := by
  obtain ⟨f, fd, h1, h2, h3, h4⟩ := D
  exact pe_call h4 hr hg h1 h2 h3 .nil pass0 ha hdb he hpl
theorem pd0 (D : Dn X.prog X.w X.K X.mg X.base k x ps sp) (hr : Room k X.A) (hg : Gl X x) (hdb : (x == ("__debug__" : Str)) = false := by decide) :
    PE X (.Call (.Name x p) [] [] pos) (tCall sp [] E0 tNil) := by
  obtain ⟨f, fd, h1, h2, h3, h4⟩ := D
  exact pe_call0 h4 hr hg h1 h2 h3 .nil pass0 hdb
end

/-! ### heaps -/
/-- all but the object at p stays -/
def But (p : Addr) (H H' : Hp) : Prop := (∀ b o, H b = some o → b ≠ p → H' b = some o) ∧ (H p ≠ none → H' p ≠ none)
theorem But.refl (p : Addr) (H : Hp) : But p H H := ⟨fun _ _ h _ => h, fun h => h⟩
theorem But.trans {p : Addr} {H H1 H2 : Hp} (a : But p H H1) (b : But p H1 H2) : But p H H2 := ⟨fun c o h n => b.1 c o (a.1 c o h n) n, fun h => b.2 (a.2 h)⟩
theorem But.of {p : Addr} {H H' : Hp} (e : Same H H') : But p H H' := ⟨fun b o h _ => e b o h, fun h => by
  cases q : H p with
  | none => exact absurd q h
  | some o => rw [e p o q]; intro z; cases z⟩
theorem But.free {p l : Addr} {H H' : Hp} (e : But p H H') (h : H' l = none) : H l = none := by
  cases q : H l with
  | none => rfl
  | some o =>
    by_cases hl : l = p
    · subst hl
      exact absurd h (e.2 (by rw [q]; intro z; cases z))
    · rw [e.1 l o q hl] at h
      cases h
theorem But.new {p q : Addr} {H H' : Hp} {o : HO} (e : But p H H') (h : H' q = none) : But p H (upd H' q o) := e.trans (But.of fun b u hb => by
  rw [upd_ne (ne_of_none hb h)]
  exact hb)
theorem Same.new {H H' : Hp} {q : Addr} {o : HO} (e : Same H H') (h : H' q = none) : Same H (upd H' q o) := fun b u hb => by
  have h1 := e b u hb
  rw [upd_ne (ne_of_none h1 h)]
  exact h1
theorem same_new {H : Hp} {q : Addr} {o : HO} (h : H q = none) : Same H (upd H q o) := Same.new (Same.refl H) h
/-- an object that H does not know may change -/
theorem Same.mut {H H' : Hp} {p : Addr} {o : HO} (e : Same H H') (h : H p = none) : Same H (upd H' p o) := fun a u ha => by
  rw [upd_ne (ne_of_none ha h)]
  exact e a u ha
theorem But.mut {p q : Addr} {H H' : Hp} {o : HO} (e : But p H H') (h : H q = none) : But p H (upd H' q o) := ⟨fun a u ha hp => by
  rw [upd_ne (ne_of_none ha h)]
  exact e.1 a u ha hp, fun hn => by
  by_cases z : p = q
  · subst z; exact absurd h hn
  · rw [upd_ne z]; exact e.2 hn⟩

/-! ### rules with one way -/
section
variable {X : Cx}
def rIntI : List V → Hp → VK → Prop := fun xs H Q => ∃ i, xs = [.int i] ∧ Q (.int i) H
theorem call_intI : CallR X (.type "int") rIntI := fun pins s σ H xs us Q I r h => call_int1 pins s σ H xs us Q I r (.inl h)
def rIntB : List V → Hp → VK → Prop := fun xs H Q => ∃ k, xs = [.bl k] ∧ Q (.int (if k then 1 else 0)) H
theorem call_intB : CallR X (.type "int") rIntB := fun pins s σ H xs us Q I r h => call_int1 pins s σ H xs us Q I r (.inr h)
def rLenL (K : PySem.W.Frag) : List V → Hp → VK → Prop := fun xs H Q => ∃ p ys, xs = [.ref p] ∧ SqL K H p ys ∧ Q (.int ys.length) H
theorem call_lenL : CallR X (.builtin "len") (rLenL X.K) := fun pins s σ H xs us Q I r h => by
  obtain ⟨p, ys, e, h1, q⟩ := h
  exact call_len_seq pins s σ H xs us Q I r ⟨p, ys, e, .inl h1, q⟩
def rListL (K : PySem.W.Frag) : List V → Hp → VK → Prop := fun xs H Q => ∃ p ys, xs = [.ref p] ∧ SqL K H p ys ∧ ∀ l, H l = none → Q (.ref l) (upd H l (.lst ys))
theorem call_listL : CallR X (.type "list") (rListL X.K) := fun pins s σ H xs us Q I r h => by
  obtain ⟨p, ys, e, h1, q⟩ := h
  exact call_list_of pins s σ H xs us Q I r ⟨p, ys, e, .inl h1, q⟩
def rListT (K : PySem.W.Frag) : List V → Hp → VK → Prop := fun xs H Q => ∃ p ys, xs = [.ref p] ∧ SqT K H p ys ∧ ∀ l, H l = none → Q (.ref l) (upd H l (.lst ys))
theorem call_listT : CallR X (.type "list") (rListT X.K) := fun pins s σ H xs us Q I r h => by
  obtain ⟨p, ys, e, h1, q⟩ := h
  exact call_list_of pins s σ H xs us Q I r ⟨p, ys, e, .inr h1, q⟩
def rAbs : List V → Hp → VK → Prop := fun xs H Q => ∃ i, xs = [.int i] ∧ Q (.int (if i < 0 then -i else i)) H
theorem call_absI : CallR X (.builtin "abs") rAbs := call_abs
end
/-! ### dicts by written keys -/
theorem dg_s {H : Hp} {a : Addr} {kvs : List (Key × V)} {z : Str} {v : V} {R : V → Prop} (h : H a = some (.dK kvs)) (hv : valV kvs (Sum.inr z) = some v) (q : R v) : ∃ x, DGet H a (.str z) (some x) ∧ R x :=
  ⟨v, by rw [← hv]; exact DGet.k (k := Sum.inr z) h, q⟩
theorem dp_s {H : Hp} {a : Addr} {kvs : List (Key × V)} {z : Str} {v : V} {R : Hp → Prop} (h : H a = some (.dK kvs)) (hl : kvs.length < sizeLine) (q : R (upd H a (.dK (putK kvs (Sum.inr z) v)))) : ∃ H', DPut H a (.str z) v H' ∧ R H' :=
  ⟨_, DPut.k (k := Sum.inr z) h hl, q⟩
/-! ### data -/
theorem dp_ints (K : PySem.W.Frag) (H : Hp) : ∀ ns : List Int, DpAll K H (ns.map V.int) (ns.map PyData.int)
  | [] => .nil
  | n :: r => .cons (.int n) (dp_ints K H r)
theorem dp_strs (K : PySem.W.Frag) (H : Hp) : ∀ ns : List Str, DpAll K H (ns.map V.str) (ns.map PyData.str)
  | [] => .nil
  | n :: r => .cons (.str n) (dp_strs K H r)
/-- a list and a new empty list -/
theorem ne_nil {K : PySem.W.Frag} {H : Hp} {p q : Addr} {xs : List V} {ds : List PyData} {Q : VK} (hp : SqL K H p xs) (hd : DpAll K H xs ds) (hs : SeqAt.shaped (.list ds) = true) (hq : H q = some (.lst [])) (k : Q (.bl (!xs.isEmpty)) H) :
    rNeD K (.ref p) (.ref q) H Q := by
  refine ⟨.list ds, .list [], .lst hp hd, .lst (.inl (.inl hq)) .nil, hs, by decide, ?_⟩
  cases hd with
  | nil => exact k
  | cons a b => exact k
theorem eq_nil {K : PySem.W.Frag} {H : Hp} {p q : Addr} {xs : List V} {ds : List PyData} {Q : VK} (hp : SqL K H p xs) (hd : DpAll K H xs ds) (hs : SeqAt.shaped (.list ds) = true) (hq : H q = some (.lst [])) (k : Q (.bl xs.isEmpty) H) :
    rEqD K (.ref p) (.ref q) H Q := by
  refine ⟨.list ds, .list [], .lst hp hd, .lst (.inl (.inl hq)) .nil, hs, by decide, ?_⟩
  cases hd with
  | nil => exact k
  | cons a b => exact k
def Shp (n : Nat) (d : PyData) : Prop := d.canLay0 = true ∧ d.depth ≤ n
theorem shp_all {n : Nat} : ∀ {ds : List PyData}, (∀ d ∈ ds, Shp n d) → PyData.canLayAll0 ds = true ∧ PyData.depthAll ds ≤ n
  | [], _ => ⟨rfl, Nat.zero_le _⟩
  | d :: r, h => by
    obtain ⟨h1, h2⟩ := shp_all (ds := r) fun x hx => h x (List.mem_cons_of_mem _ hx)
    obtain ⟨h3, h4⟩ := h d List.mem_cons_self
    exact ⟨by show (PyData.canLay0 d && PyData.canLayAll0 r) = true; rw [h1, h3]; rfl, Nat.max_le.mpr ⟨h4, h2⟩⟩
theorem shp_lst {n : Nat} {ds : List PyData} (h : ∀ d ∈ ds, Shp n d) : Shp (n + 1) (.list ds) := ⟨(shp_all h).1, Nat.succ_le_succ (shp_all h).2⟩
theorem shp_tup {n : Nat} {ds : List PyData} (h : ∀ d ∈ ds, Shp n d) : Shp (n + 1) (.tuple ds) := ⟨(shp_all h).1, Nat.succ_le_succ (shp_all h).2⟩
theorem shp_int (i : Int) : Shp 0 (.int i) := ⟨rfl, Nat.le_refl _⟩
theorem shp_bool (b : Bool) : Shp 0 (.bool b) := ⟨rfl, Nat.le_refl _⟩
theorem shp_non : Shp 0 .none := ⟨rfl, Nat.le_refl _⟩
theorem Shp.mono {n m : Nat} {d : PyData} (h : Shp n d) (hm : n ≤ m) : Shp m d := ⟨h.1, Nat.le_trans h.2 hm⟩
theorem Shp.ok {n : Nat} {d : PyData} (h : Shp n d) (hn : n ≤ 64) : SeqAt.shaped d = true := by
  show (d.canLay0 && decide (d.depth ≤ 64)) = true
  rw [h.1, decide_eq_true (Nat.le_trans h.2 hn)]
  rfl
theorem shaped_ints (ns : List Int) : SeqAt.shaped (.list (ns.map PyData.int)) = true := (shp_lst (n := 0) fun d hd => by
  obtain ⟨i, _, rfl⟩ := List.mem_map.mp hd
  exact shp_int i).ok (by decide)
theorem ix_mod {ns : List Int} {t : Int} (h0 : ns ≠ []) : ∃ v, atI (ns.map V.int) (t % ((ns.map V.int).length : Nat)) = some (.int v) := by
  have hl : 0 < ns.length := by cases ns with
    | nil => exact absurd rfl h0
    | cons x r => exact Nat.succ_pos _
  have h1 : 0 ≤ t % (ns.length : Int) := Int.emod_nonneg _ (by omega)
  have h2 : t % (ns.length : Int) < ns.length := Int.emod_lt_of_pos _ (by omega)
  rw [List.length_map]
  obtain ⟨j, hj⟩ : ∃ j : Nat, t % (ns.length : Int) = j := ⟨(t % (ns.length : Int)).toNat, by omega⟩
  rw [hj]
  have hjl : j < ns.length := by omega
  exact ⟨ns[j], atI_nat (by rw [List.getElem?_map, List.getElem?_eq_getElem hjl]; rfl)⟩
/-! ### slices -/
theorem cut_to (xs : List V) (k : Nat) : cutV xs none (some (k : Int)) = xs.take k := by
  unfold cutV
  rw [HT.sIx_none, show HT.sIx xs.length xs.length (some (k : Int)) = min k xs.length from HT.sIx_nat _ _ k]
  show List.take (min k xs.length) xs = List.take k xs
  rcases Nat.le_total k xs.length with h | h
  · rw [Nat.min_eq_left h]
  · rw [Nat.min_eq_right h, List.take_of_length_le h, List.take_of_length_le (Nat.le_refl _)]

/-! ### the pen -/
theorem s_ct : ¬ (("cells" : Str) = "turn") := by decide
theorem s_lt : ¬ (("left" : Str) = "turn") := by decide
theorem s_cl : ¬ (("cells" : Str) = "left") := by decide
theorem s_tl : ¬ (("turn" : Str) = "left") := by decide
theorem k_ct : ¬ ((Sum.inr ("cells" : Str) : Key) = Sum.inr ("turn" : Str)) := by decide
theorem k_cl : ¬ ((Sum.inr ("cells" : Str) : Key) = Sum.inr ("left" : Str)) := by decide
theorem k_tl : ¬ ((Sum.inr ("turn" : Str) : Key) = Sum.inr ("left" : Str)) := by decide
def penK (c : Addr) (turn left : Int) : List (Key × V) := [(Sum.inr "cells", .ref c), (Sum.inr "turn", .int turn), (Sum.inr "left", .int left)]
theorem pen_cells (c : Addr) (turn left : Int) : valV (penK c turn left) (Sum.inr "cells") = some (.ref c) := by
  unfold penK
  exact valV_pos rfl
theorem pen_turn (c : Addr) (turn left : Int) : valV (penK c turn left) (Sum.inr "turn") = some (.int turn) := by
  unfold penK
  rw [valV_neg k_ct, valV_pos rfl]
theorem pen_left (c : Addr) (turn left : Int) : valV (penK c turn left) (Sum.inr "left") = some (.int left) := by
  unfold penK
  rw [valV_neg k_cl, valV_neg k_tl, valV_pos rfl]
theorem pen_putT (c : Addr) (turn left x : Int) : putK (penK c turn left) (Sum.inr ("turn" : Str)) (.int x) = penK c x left := by
  unfold putK penK
  simp [s_ct, s_lt]
theorem pen_putL (c : Addr) (turn left x : Int) : putK (penK c turn left) (Sum.inr ("left" : Str)) (.int x) = penK c turn x := by
  unfold putK penK
  simp [s_cl, s_tl]
theorem pen_len (c : Addr) (turn left : Int) : (penK c turn left).length < sizeLine := small1000 (by show 3 ≤ 1000; decide)
/-- the dict at p, the list of cells at c -/
structure PenOk (H : Hp) (p c : Addr) (t : Nat) : Prop where
  ex : ∃ (cells : List Int) (turn left : Int), H p = some (.dK (penK c turn left)) ∧
    H c = some (.lst (cells.map V.int)) ∧ cells.length ≤ 63 ∧ 0 ≤ turn ∧ turn ≤ t
theorem PenOk.mono {H : Hp} {p c : Addr} {t t' : Nat} (h : PenOk H p c t) (ht : t ≤ t') : PenOk H p c t' := by
  obtain ⟨cells, turn, left, h1, h2, h3, h4, h5⟩ := h.ex
  exact ⟨cells, turn, left, h1, h2, h3, h4, by omega⟩
theorem PenOk.dict {H : Hp} {p c : Addr} {t : Nat} (h : PenOk H p c t) : ∃ kvs, H p = some (.dK kvs) := by
  obtain ⟨cells, turn, left, h1, _⟩ := h.ex
  exact ⟨_, h1⟩
theorem PenOk.cells {H : Hp} {p c : Addr} {t : Nat} (h : PenOk H p c t) : ∃ xs, H c = some (.lst xs) := by
  obtain ⟨cells, turn, left, h1, h2, _⟩ := h.ex
  exact ⟨_, h2⟩
theorem PenOk.same {H H' : Hp} {p c : Addr} {t : Nat} (h : PenOk H p c t) (e : Same H H') : PenOk H' p c t := by
  obtain ⟨cells, turn, left, h1, h2, h3, h4, h5⟩ := h.ex
  exact ⟨cells, turn, left, e _ _ h1, e _ _ h2, h3, h4, h5⟩
theorem PenOk.mut {H : Hp} {p c l : Addr} {o : HO} {t : Nat} (h : PenOk H p c t) (h1 : l ≠ p) (h2 : l ≠ c) : PenOk (upd H l o) p c t := by
  obtain ⟨cells, turn, left, g1, g2, h3, h4, h5⟩ := h.ex
  exact ⟨cells, turn, left, by rw [upd_ne h1.symm]; exact g1, by rw [upd_ne h2.symm]; exact g2, h3, h4, h5⟩

theorem lg_small {n : Nat} (h : n < 1000000) : ((n : Nat) : Int).natAbs.log2 < 9000 := by
  have := PySem.Flt.log2_lt_of (k := 20) (by decide) (show ((n : Nat) : Int).natAbs < 2 ^ 20 by rw [Int.natAbs_natCast]; omega)
  omega
def spPen (K : PySem.W.Frag) : Sp := fun vs H Q _ => ∃ (a : Addr) (ns : List Int), vs = [.ref a] ∧ SqL K H a (ns.map V.int) ∧ ns.length ≤ 63 ∧
  ∀ H' p c, H p = none → Same H H' → PenOk H' p c 0 → Q (.ref p) H'
def spDraw : Sp := fun vs H Q _ => ∃ (p c : Addr) (span : Int) (t : Nat), vs = [.ref p, .int span] ∧ PenOk H p c t ∧ t ≤ 1000000000 ∧ 0 < span ∧ span.natAbs.log2 < 9000 ∧
  ∀ (r : Int) H', 0 ≤ r → r < span → PenOk H' p c (t + 1) → But p H H' → Q (.int r) H'
end Fp

/-! the keys of a dict that the top has written, walked -/
namespace Fp
open PySem PySem.Spec PyProof.Rows L2
def keyTxt (e : DictEntry) : Option Str := match e.key with
  | .str x _ => some x
  | _ => none
/-- the dict at d stands in the written part, its keys are the texts zs -/
structure KKeys (K : PySem.W.Frag) (d : Addr) (zs : List Str) : Prop where
  ex : ∃ (es : Array DictEntry) (n : Nat), K.lookup d = some ⟨.type "dict", none, .dict es n, #[]⟩ ∧ es.toList.map keyTxt = zs.map some
  low : (d == sysModules) = false
theorem KKeys.at {K : PySem.W.Frag} {d : Addr} {zs : List Str} {es : Array DictEntry} {n : Nat} (h : es.toList.map keyTxt = zs.map some) : es.size = zs.length ∧ ∀ (i : Nat) (hi : i < es.size), ∃ z t, zs[i]? = some z ∧ es[i].key = .str z t := by
  have hl : es.size = zs.length := by
    have := congrArg List.length h
    rw [List.length_map, List.length_map] at this
    simpa using this
  refine ⟨hl, fun i hi => ?_⟩
  have hz : i < zs.length := hl ▸ hi
  have e := congrArg (fun l => l[i]?) h
  simp only [List.getElem?_map] at e
  rw [show es.toList[i]? = some es[i] by simp [hi], List.getElem?_eq_getElem hz] at e
  have e2 : keyTxt es[i] = some zs[i] := Option.some.inj e
  refine ⟨zs[i], ?_⟩
  unfold keyTxt at e2
  split at e2
  · rename_i x t hk
    exact ⟨t, List.getElem?_eq_getElem hz, by rw [hk, Option.some.inj e2]⟩
  · cases e2
/-- the keys in their order -/
def ItKK (zs : List Str) : It := ⟨fun i _ => i < zs.length, fun i H x H' => H' = H ∧ ∃ z, zs[i]? = some z ∧ x = .str z, fun i _ => zs.length ≤ i⟩
section
variable {P : Program} {w : World} {K : PySem.W.Frag} {tg : Expr}
theorem turn_kk {d it : Addr} {zs : List Str} {es : Array DictEntry} {n : Nat} (hl : K.lookup d = some ⟨.type "dict", none, .dict es n, #[]⟩) (hk : es.toList.map keyTxt = zs.map some) :
    Turn P w K tg (ItKK zs) [it] it (fun i h => h.IsKeyIter it d i es.size n) where
  mem := by simp
  obj := fun i h st b hb => by
    have e : b = it := by simpa using hb
    subst e
    obtain ⟨oi, e, c, dd⟩ := st
    exact ⟨oi, e, fun v z => by rw [dd] at z; cases z⟩
  keep := fun i h h' st k => st.at fun oi e => k it (by simp) oi e
  item := by
    intro X hP hw hK hc i pins s σ H E I hf st hg
    subst hP hw hK
    obtain ⟨f0, f1, f2, f3, f4, f5⟩ := hf it (by simp)
    obtain ⟨hs, hz⟩ := KKeys.at (K := X.K) (d := d) (n := n) hk
    have hi : i < es.size := by
      have : i < zs.length := hg
      omega
    obtain ⟨z, t, e1, e2⟩ := hz i hi
    have raw : s.heap.DictRaw d es n := ⟨_, I.kIn d _ hl, ⟨rfl, rfl, rfl⟩, rfl⟩
    refine wpAny_pyNext_keys_item_raw st raw hi fun h' st' sb => ?_
    have I1 : Inv X pins σ H { s with heap := h' } := I.turned (t' := s.toks) (fun b ob hb e => (sb.2 b hb).trans e) f0 f1 f3 f4 f5
    obtain ⟨oi, e, c, dd⟩ := id st'
    exact ⟨_, rfl, go_of (s := { s with heap := h' }) e c dd (by decide) ⟨.str z, H, I1, ⟨t, e2⟩, ⟨rfl, z, e1, rfl⟩, st', fun b hb => (hf b hb).1⟩⟩
  done := by
    intro X hP hw hK hc i pins s σ H E I hf st hg
    subst hP hw hK
    obtain ⟨f0, f1, f2, f3, f4, f5⟩ := hf it (by simp)
    obtain ⟨hs, hz⟩ := KKeys.at (K := X.K) (d := d) (n := n) hk
    have raw : s.heap.DictRaw d es n := ⟨_, I.kIn d _ hl, ⟨rfl, rfl, rfl⟩, rfl⟩
    have hi : es.size ≤ i := by
      have : zs.length ≤ i := hg
      omega
    exact wpAny_pyNext_keys_end_raw (I.ok.hd hc) st raw hi fun h' eb => ⟨rfl, I.turned (t' := s.toks) (fun b o hb e => eb b o hb e) f0 f1 f3 f4 f5⟩
  self := fun _ _ _ _ _ st h => wpAny_pyIter_keyiter st h
def iKK (K : PySem.W.Frag) (td : TE) : TI := fun σ H R => td σ H fun x H1 => ∃ d zs, x = .ref d ∧ KKeys K d zs ∧ R (ItKK zs) H1
theorem pi_kk {X : Cx} {e : Expr} {td : TE} (he : PE X e td) : PI X tg e (iKK X.K td) := by
  refine ⟨fun pins s σ H R I h => ?_⟩
  refine thn (he.run pins s σ H _ I h) fun u s1 ⟨x, H1, I1, rx, d, zs, ex, ⟨⟨es, n, hl, hk⟩, low⟩, q⟩ => ?_
  subst ex
  obtain rfl : u = Value.ref d := rx
  have raw : s1.heap.DictRaw d es n := ⟨_, I1.kIn d _ hl, ⟨rfl, rfl, rfl⟩, rfl⟩
  exact wpAny_pyIter_dict_raw low raw (pi_one (tk := s1.toks) I1 _ (turn_kk hl hk) ⟨_, Heap.get?_push_size _ rfl, rfl, rfl⟩ q)
end
end Fp

/-! operators and methods that a class of the text defines -/
namespace Fp
open PySem PySem.Spec PyProof.Rows L2
/-- the def m of the class at C -/
def Mn (P : Program) (w : World) (K : PySem.W.Frag) (mg : Str → Option Value) (base : Heap) (k : Nat) (C : Addr) (m : Str) (ps : List Str) (sp : Sp) : Prop :=
  ∃ g fd, Meth K C m g ∧ Binds K fd ps [] ∧ FnOk P w K mg base CX0 k g fd ps sp
section
variable {X : Cx} {k : Nat} {C : Addr} {m : Str} {ps : List Str} {sp : Sp}
theorem pm {pl : Sem Bool} {o e : Expr} {es : List Expr} {pos apos : Pos} {ta : TE} {t : TA} (c : Cls X.K C) (M : Mn X.prog X.w X.K X.mg X.base k C m ps sp) (hr : Room k X.A) (he : PE X o ta) (ha : PA X (e :: es) t)
    (hst : starEach (e :: es) X.env = (false, eval e X.env) :: starEach es X.env := by rfl) (hpl : (backTo pos (starEach es X.env)).any (·.1) = false := by rfl)
    (ht : eval (.Call (.Attribute o m apos) (e :: es) [] pos) X.env = (do
      let ov ← eval o X.env
      standAt apos.atName
      let (f, first) ← holding [ov] (getMethod ov m pl)
      callWith pos f first (backTo pos (starEach (e :: es) X.env)) (backToKw pos (keywordEach [] X.env))) := by rfl) :
    PE X (.Call (.Attribute o m apos) (e :: es) [] pos) (tMeth C m sp [] E0 ta t) := by
  obtain ⟨g, fd, h1, h2, h3⟩ := M
  exact pe_meth he c h1 h3 hr h2 .nil pass0 ha hst hpl ht
theorem pm0 {pl : Sem Bool} {o : Expr} {pos apos : Pos} {ta : TE} (c : Cls X.K C) (M : Mn X.prog X.w X.K X.mg X.base k C m ps sp) (hr : Room k X.A) (he : PE X o ta)
    (ht : eval (.Call (.Attribute o m apos) [] [] pos) X.env = (do
      let ov ← eval o X.env
      standAt apos.atName
      let (f, first) ← holding [ov] (getMethod ov m pl)
      callWith pos f first (backTo pos (starEach [] X.env)) (backToKw pos (keywordEach [] X.env))) := by rfl) :
    PE X (.Call (.Attribute o m apos) [] [] pos) (tMeth C m sp [] E0 ta tNil) := by
  obtain ⟨g, fd, h1, h2, h3⟩ := M
  exact pe_meth0 he c h1 h3 hr h2 .nil pass0 ht
/-- the class x of the text, made by its __init__ -/
def Kn (P : Program) (w : World) (K : PySem.W.Frag) (mg : Str → Option Value) (base : Heap) (k : Nat) (C : Addr) (ps : List Str) (sp : Sp) : Prop :=
  ∃ g fd, Mk K C g ∧ Binds K fd ps [] ∧ FnOk P w K mg base CX0 k g fd ps sp
theorem pk {x : Str} {e : Expr} {es : List Expr} {p pos : Pos} {t : TA} (M : Kn X.prog X.w X.K X.mg X.base k C ps sp) (hr : Room (k + 1) X.A) (hg : Gl X x) (hm : X.mg x = some (.ref C)) (ha : PA X (e :: es) t)
    (hdb : (x == ("__debug__" : Str)) = false := by decide) (he : starEach (e :: es) X.env = (false, eval e X.env) :: starEach es X.env := by rfl) (hpl : (backTo pos (starEach es X.env)).any (·.1) = false := by rfl) :
    PE X (.Call (.Name x p) (e :: es) [] pos) (tMake C sp [] E0 t) := by
  obtain ⟨g, fd, h1, h2, h3⟩ := M
  exact pe_make h1 h3 hr hg hm h2 .nil pass0 ha hdb he hpl
/-- a property of the class at C -/
def Pn (P : Program) (w : World) (K : PySem.W.Frag) (mg : Str → Option Value) (base : Heap) (k : Nat) (C : Addr) (f : Str) (sp : Sp) : Prop :=
  ∃ p g fd ps, PropOf K C f p g ∧ Binds K fd ps [] ∧ FnOk P w K mg base CX0 k g fd ps sp
theorem pq {f : Str} {e : Expr} {pos : Pos} {ta : TE} (c : Cls X.K C) (M : Pn X.prog X.w X.K X.mg X.base k C f sp) (hr : Room (k + 1) X.A) (he : PE X e ta) (hab : attributeBase e f X.env (eval e X.env) = eval e X.env := by rfl) :
    PE X (.Attribute e f pos) (tProp C sp [] E0 ta) := by
  obtain ⟨p, g, fd, ps, h1, h2, h3⟩ := M
  exact pe_prop he c h1 h3 hr h2 .nil pass0 hab
theorem inst_of {pins : List (Addr × Obj)} {σ : L2.St} {H : Hp} {s : Shared} {a dx : Addr} {fs : List (Str × V)} (I : Inv X pins σ H s) (e : H a = some (.ins C dx fs)) : ∃ od, PySem.W.InstAt s.heap a (PySem.W.instObj C dx) C (some od) := by
  obtain ⟨mA, O, _⟩ := ins_get I.hok e
  obtain ⟨od, J, _⟩ := O.look
  exact ⟨od, J⟩
/-- v in x, x an instance of the class at C -/
def rOwnIn (C : Addr) (neg : Bool) (sp : Sp) : R2 := fun x y H Q => ∃ a dx fs, y = .ref a ∧ H a = some (.ins C dx fs) ∧ sp [.ref a, x] H (fun v H' => ∃ b, v = .bl b ∧ Q (.bl (if neg then !b else b)) H') E0
theorem op_ownIn (M : Mn X.prog X.w X.K X.mg X.base k C "__contains__" ps sp) (hr : Room k X.A) : OpR X (compareOp .In) (rOwnIn C false sp) := by
  intro pins s σ H x y v u Q I rx ry h
  obtain ⟨a, dx, fs, rfl, ha, q⟩ := h
  obtain rfl : u = Value.ref a := ry
  obtain ⟨g, fd, h1, h2, h3⟩ := M
  obtain ⟨od, J⟩ := inst_of I ha
  obtain ⟨m, hF⟩ := I.fr
  refine PySem.W.in_K hF I.ok.mod.kin J h1.at_ h1.fn ?_
  refine wpAny_mono (run_fn (us := [.ref a, v]) (vs := [.ref a, x]) (dvs := []) h3 hr h2 .nil pass0 I (.cons rfl (.cons rx .nil)) q) (fun w s' z => ?_) fun _ _ x => x
  obtain ⟨z', H', I', rz, b, rfl, qz⟩ := z
  cases rz
  exact wpAny_truthy_bool ⟨.bl b, H', I', rfl, qz⟩
theorem op_ownNotIn (M : Mn X.prog X.w X.K X.mg X.base k C "__contains__" ps sp) (hr : Room k X.A) : OpR X (compareOp .NotIn) (rOwnIn C true sp) := by
  intro pins s σ H x y v u Q I rx ry h
  obtain ⟨a, dx, fs, rfl, ha, q⟩ := h
  obtain rfl : u = Value.ref a := ry
  obtain ⟨g, fd, h1, h2, h3⟩ := M
  obtain ⟨od, J⟩ := inst_of I ha
  obtain ⟨m, hF⟩ := I.fr
  refine PySem.W.notIn_K hF I.ok.mod.kin J h1.at_ h1.fn ?_
  refine wpAny_mono (run_fn (us := [.ref a, v]) (vs := [.ref a, x]) (dvs := []) h3 hr h2 .nil pass0 I (.cons rfl (.cons rx .nil)) q) (fun w s' z => ?_) fun _ _ x => x
  obtain ⟨z', H', I', rz, b, rfl, qz⟩ := z
  cases rz
  exact wpAny_truthy_bool ⟨.bl (!b), H', I', rfl, qz⟩
/-- x op y, both instances of the class at C, a comparison -/
def rOwn2 (C : Addr) (sp : Sp) : R2 := fun x y H Q => ∃ a dx fs b dy gs, x = .ref a ∧ y = .ref b ∧ H a = some (.ins C dx fs) ∧ H b = some (.ins C dy gs) ∧ sp [.ref a, .ref b] H Q E0
theorem op_ownCmp {op : CmpOp} (hop : ∀ a b, compareOp op a b = richCompare op a b) (hn : PySem.W.notFirst X.K C (.ref C) = true) (M : Mn X.prog X.w X.K X.mg X.base k C (cmpInfo op).2.1 ps sp) (hr : Room k X.A) : OpR X (compareOp op) (rOwn2 C sp) := by
  intro pins s σ H x y v u Q I rx ry h
  obtain ⟨a, dx, fs, b, dy, gs, rfl, rfl, ha, hb, q⟩ := h
  obtain rfl : v = Value.ref a := rx
  obtain rfl : u = Value.ref b := ry
  obtain ⟨g, fd, h1, h2, h3⟩ := M
  obtain ⟨od, J⟩ := inst_of I ha
  obtain ⟨od', J'⟩ := inst_of I hb
  obtain ⟨m, hF⟩ := I.fr
  rw [hop]
  refine PySem.W.cmp_K (op := op) (tb := .ref C) hr.units0 hF I.ok.mod.kin J J'.type hn h1.at_ h1.fn ?_
  refine wpAny_mono (run_fn (us := [.ref a, .ref b]) (vs := [.ref a, .ref b]) (dvs := []) h3 hr h2 .nil pass0 I (.cons rfl (.cons rfl .nil)) q) (fun w s' z => ?_) fun _ _ x => x
  obtain ⟨z', H', I', rz, qz⟩ := z
  exact SlX.cmpback rz ⟨z', H', I', rz, qz⟩
theorem op_ownBin {op : Operator} (hc : PySem.W.selfFirst X.K C = true) (M : Mn X.prog X.w X.K X.mg X.base k C (PySem.dunder op.info.2) ps sp) (hr : Room k X.A) : OpR X (binaryOp op) (rOwn2 C sp) := by
  intro pins s σ H x y v u Q I rx ry h
  obtain ⟨a, dx, fs, b, dy, gs, rfl, rfl, ha, hb, q⟩ := h
  obtain rfl : v = Value.ref a := rx
  obtain rfl : u = Value.ref b := ry
  obtain ⟨g, fd, h1, h2, h3⟩ := M
  obtain ⟨od, J⟩ := inst_of I ha
  obtain ⟨od', J'⟩ := inst_of I hb
  obtain ⟨m, hF⟩ := I.fr
  refine PySem.W.binop_K (op := op) hF I.ok.mod.kin J J'.type hc h1.at_ h1.fn ?_
  refine wpAny_mono (run_fn (us := [.ref a, .ref b]) (vs := [.ref a, .ref b]) (dvs := []) h3 hr h2 .nil pass0 I (.cons rfl (.cons rfl .nil)) q) (fun w s' z => ?_) fun _ _ x => x
  obtain ⟨z', H', I', rz, qz⟩ := z
  exact SlX.cmpback rz ⟨z', H', I', rz, qz⟩
end
end Fp

/-! loops and comprehensions over a row of values -/
namespace Fp
open PySem PySem.Spec PyProof.Rows L2
/-- the iterator gives the values xs, one a turn, while S holds of the heap -/
structure JSeq (J : It) (xs : List V) (S : Hp → Prop) : Prop where
  go : ∀ i H, S H → i < xs.length → J.go i H
  yld : ∀ i H x H', S H → i < xs.length → J.yld i H x H' → H' = H ∧ xs[i]? = some x
  stop : ∀ i H, S H → xs.length ≤ i → J.stop i H
  same : ∀ H H', S H → Same H H' → S H'
theorem jseq_list (K : PySem.W.Frag) (a : Addr) (xs : List V) : JSeq (Itl K a) xs (fun H => SqL K H a xs) :=
  ⟨fun i H h hi => ⟨xs, xs[i], h, List.getElem?_eq_getElem hi⟩, fun i H x H' h _ y => ⟨y.1, y.2 xs h⟩, fun i H h hi => ⟨xs, h, hi⟩, fun H H' h e => e.seq h⟩
theorem same_tup {K : PySem.W.Frag} {H H' : Hp} {a : Addr} {xs : List V} (e : Same H H') (h : SqT K H a xs) : SqT K H' a xs := by
  rcases h with (h | ⟨o, h⟩) | h
  · exact .inl (.inl (e _ _ h))
  · exact .inl (.inr ⟨o, e _ _ h⟩)
  · exact .inr h
theorem jseq_tup (K : PySem.W.Frag) (a : Addr) (xs : List V) : JSeq (Itt K a) xs (fun H => SqT K H a xs) :=
  ⟨fun i H h hi => ⟨xs, xs[i], h, List.getElem?_eq_getElem hi⟩, fun i H x H' h _ y => ⟨y.1, y.2 xs h⟩, fun i H h hi => ⟨xs, h, hi⟩, fun H H' h e => same_tup e h⟩
theorem jseq_kk (zs : List Str) : JSeq (ItKK zs) (zs.map V.str) (fun _ => True) :=
  ⟨fun i H h hi => by rw [List.length_map] at hi; exact hi, fun i H x H' h _ y => by
    obtain ⟨e, z, h1, rfl⟩ := y
    exact ⟨e, by rw [List.getElem?_map, h1]; rfl⟩, fun i H h hi => by rw [List.length_map] at hi; exact hi, fun _ _ h _ => h⟩
def rngV (lo : Int) (n : Nat) : List V := (List.range n).map fun (i : Nat) => V.int (lo + i)
theorem rngV_len (lo : Int) (n : Nat) : (rngV lo n).length = n := by
  unfold rngV
  rw [List.length_map, List.length_range]
theorem rngV_at {lo : Int} {n i : Nat} (h : i < n) : (rngV lo n)[i]? = some (.int (lo + i)) := by
  unfold rngV
  rw [List.getElem?_map, List.getElem?_range h]
  rfl
theorem jseq_rng (lo : Int) (n : Nat) : JSeq (Itr lo n) (rngV lo n) (fun _ => True) :=
  ⟨fun i H _ hi => by rw [rngV_len] at hi; exact hi, fun i H x H' _ hi y => by
    obtain ⟨h1, h2⟩ := y
    rw [rngV_len] at hi
    exact ⟨h1, by rw [rngV_at hi, h2]⟩, fun i H _ hi => by rw [rngV_len] at hi; exact hi, fun _ _ h _ => h⟩

/-! ### the walk, once the iterator is there -/
def LcG (J : It) (g : TG) (tt : TT) (te : TE) (vs : List Nat) (σ : L2.St) (H : Hp) (Q : VK) : Prop := tLc (fun _ H R => R J H) g tt te vs σ H Q
def ForG (J : It) (g : TG) (tb : TS) (D : Ends) (σ : L2.St) (H : Hp) : Prop := tFor (fun _ H R => R J H) g tb D σ H
section
variable {K : PySem.W.Frag} {tl : TE} {ta : TA} {g : TG} {tt : TT} {te : TE} {tb : TS} {D : Ends} {vs : List Nat} {σ : L2.St} {H : Hp} {Q : VK}
theorem lc_iL : tLc (iList K tl) g tt te vs σ H Q = tl σ H (fun x H1 => ∃ a, x = .ref a ∧ (∃ xs, SqL K H1 a xs) ∧ LcG (Itl K a) g tt te vs σ H1 Q) := rfl
theorem lc_iT : tLc (iTup K tl) g tt te vs σ H Q = tl σ H (fun x H1 => ∃ a, x = .ref a ∧ (∃ xs, SqT K H1 a xs) ∧ LcG (Itt K a) g tt te vs σ H1 Q) := rfl
theorem lc_iK : tLc (iKK K tl) g tt te vs σ H Q = tl σ H (fun x H1 => ∃ d zs, x = .ref d ∧ KKeys K d zs ∧ LcG (ItKK zs) g tt te vs σ H1 Q) := rfl
theorem lc_iR : tLc (iRng1 ta) g tt te vs σ H Q = ta σ H (fun zs H1 => ∃ j : Int, zs = [.int j] ∧ -(2 ^ 62) ≤ j ∧ j < 2 ^ 62 ∧ LcG (Itr 0 j.toNat) g tt te vs σ H1 Q) := rfl
theorem fr_iL : tFor (iList K tl) g tb D σ H = tl σ H (fun x H1 => ∃ a, x = .ref a ∧ (∃ xs, SqL K H1 a xs) ∧ ForG (Itl K a) g tb D σ H1) := rfl
theorem fr_iT : tFor (iTup K tl) g tb D σ H = tl σ H (fun x H1 => ∃ a, x = .ref a ∧ (∃ xs, SqT K H1 a xs) ∧ ForG (Itt K a) g tb D σ H1) := rfl
theorem fr_iR : tFor (iRng1 ta) g tb D σ H = ta σ H (fun zs H1 => ∃ j : Int, zs = [.int j] ∧ -(2 ^ 62) ≤ j ∧ j < 2 ^ 62 ∧ ForG (Itr 0 j.toNat) g tb D σ H1) := rfl
variable {J : It} {xs : List V} {S : Hp → Prop}
/-- a comprehension by a word P of: the turn, the list so far (it stands at D), the heap -/
theorem lcg_by (hJ : JSeq J xs S) (P : Addr → Nat → List V → Hp → Prop) (h0 : ∀ D, H D = none → P D 0 [] (upd H D (.lst [])))
    (hP : ∀ D i acc H', H D = none → i ≤ xs.length → P D i acc H' → S H')
    (hs : ∀ D i x acc H', H D = none → xs[i]? = some x → P D i acc H' → g x (wipe σ vs) H' fun σ2 H2 => wipe σ2 vs = wipe σ vs ∧ tt σ2 H2 fun b H3 =>
      if b = true then te σ2 H3 fun y H4 => ∃ acc, H4 D = some (.lst acc) ∧ acc.length < sizeLine ∧ (∃ acc', P D (i + 1) acc' (upd H4 D (.lst (acc ++ [y])))) else ∃ acc', P D (i + 1) acc' H3)
    (hd : ∀ D acc H', H D = none → P D xs.length acc H' → Q (.ref D) H') : LcG J g tt te vs σ H Q := by
  intro D hD
  refine ⟨fun i m H' => m = xs.length - i ∧ i ≤ xs.length ∧ ∃ acc, P D i acc H', ⟨xs.length, by simp, Nat.zero_le _, [], h0 D hD⟩, ?_⟩
  rintro i m H' ⟨rfl, hi, acc, p⟩
  have hS := hP D i acc H' hD hi p
  by_cases hlt : i < xs.length
  · refine .inr ⟨hJ.go i H' hS hlt, fun H'' => ∃ acc, P D (i + 1) acc H'', fun H'' ⟨acc', p'⟩ => ⟨xs.length - (i + 1), by omega, rfl, hlt, acc', p'⟩, fun x H'' y => ?_⟩
    obtain ⟨rfl, hx⟩ := hJ.yld i H' x H'' hS hlt y
    exact hs D i x acc _ hD hx p
  · have e : i = xs.length := by omega
    subst e
    exact .inl ⟨hJ.stop _ H' hS (Nat.le_refl _), hd D acc H' hD p⟩
theorem filter_map_take {fb : V → Bool} {fv : V → V} {i : Nat} {x : V} (hx : xs[i]? = some x) :
    ((xs.take (i + 1)).filter fb).map fv = ((xs.take i).filter fb).map fv ++ (if fb x = true then [fv x] else []) := by
  rw [List.take_add_one, hx, List.filter_append, List.map_append]
  cases h : fb x with
  | true => simp [h]
  | false => simp [h]
/-- a comprehension whose tests and items change nothing that stands -/
theorem lcg_pure (hJ : JSeq J xs S) (hS : S H) (hz : xs.length < 100000) (fb : V → Bool) (fv : V → V)
    (hs : ∀ x, x ∈ xs → ∀ H', Same H H' → ∀ (R1 : V → Hp → Prop) (R0 : Hp → Prop), (fb x = true → ∀ H'', Same H' H'' → R1 (fv x) H'') → (fb x = false → ∀ H'', Same H' H'' → R0 H'') →
      g x (wipe σ vs) H' fun σ2 H2 => wipe σ2 vs = wipe σ vs ∧ tt σ2 H2 fun b H3 => if b = true then te σ2 H3 R1 else R0 H3)
    (hd : ∀ D H', H D = none → Same H H' → H' D = some (.lst ((xs.filter fb).map fv)) → Q (.ref D) H') : LcG J g tt te vs σ H Q := by
  refine lcg_by hJ (fun D i acc H' => Same H H' ∧ H' D = some (.lst acc) ∧ acc = ((xs.take i).filter fb).map fv) (fun D hD => ⟨same_new hD, upd_same, rfl⟩)
    (fun D i acc H' _ _ p => hJ.same _ _ hS p.1) (fun D i x acc H' hD hx p => ?_) (fun D acc H' hD p => ?_)
  · obtain ⟨p1, p2, rfl⟩ := p
    have hi : i < xs.length := (List.getElem?_eq_some_iff.mp hx).1
    refine hs x (List.mem_of_getElem? hx) H' p1 _ _ (fun hb H'' e => ?_) (fun hb H'' e => ?_)
    · refine ⟨((xs.take i).filter fb).map fv, e _ _ p2, ?_, _, Same.mut (p1.trans e) hD, upd_same, ?_⟩
      · refine Nat.lt_of_lt_of_le (Nat.lt_of_le_of_lt (?_ : _ ≤ xs.length) hz) (by decide)
        rw [List.length_map]
        exact Nat.le_trans (List.length_filter_le _ _) (by rw [List.length_take]; exact Nat.min_le_right _ _)
      · rw [filter_map_take hx, if_pos hb]
    · refine ⟨_, p1.trans e, e _ _ p2, ?_⟩
      rw [filter_map_take hx, if_neg (by rw [hb]; decide), List.append_nil]
  · obtain ⟨p1, p2, rfl⟩ := p
    rw [List.take_length] at p2
    exact hd D H' hD p1 p2
/-- a for by a word P of: the turn, the slots, the heap -/
theorem forg_by (hJ : JSeq J xs S) (P : Nat → L2.St → Hp → Prop) (h0 : P 0 σ H) (hP : ∀ i σ' H', i ≤ xs.length → P i σ' H' → S H')
    (hs : ∀ i x σ' H', xs[i]? = some x → P i σ' H' → g x σ' H' fun σ2 H2 => tb { D with nx := P (i + 1), ct := P (i + 1), bk := D.nx } σ2 H2) (hd : ∀ σ' H', P xs.length σ' H' → D.nx σ' H') : ForG J g tb D σ H := by
  refine ⟨fun i m σ' H' => m = xs.length - i ∧ i ≤ xs.length ∧ P i σ' H', ⟨xs.length, by simp, Nat.zero_le _, h0⟩, ?_⟩
  rintro i m σ' H' ⟨rfl, hi, p⟩
  have hS := hP i σ' H' hi p
  by_cases hlt : i < xs.length
  · refine .inr ⟨hJ.go i H' hS hlt, P (i + 1), fun σ'' H'' p' => ⟨xs.length - (i + 1), by omega, rfl, hlt, p'⟩, fun x H'' y => ?_⟩
    obtain ⟨rfl, hx⟩ := hJ.yld i H' x H'' hS hlt y
    exact hs i x σ' _ hx p
  · have e : i = xs.length := by omega
    subst e
    exact .inl ⟨hJ.stop _ H' hS (Nat.le_refl _), hd σ' H' p⟩
end
end Fp

/-! data that stands in the heap: lists and tuples of ints, texts, bools, None, nested -/
namespace Fp
open PySem PySem.Spec PyProof.Rows L2
mutual
inductive Dt (H : Hp) : V → PyData → Prop
  | non : Dt H .non .none
  | bl (b : Bool) : Dt H (.bl b) (.bool b)
  | int (i : Int) : Dt H (.int i) (.int i)
  | str (x : Str) : Dt H (.str x) (.str x)
  | lst {a : Addr} {xs : List V} {ds : List PyData} : H a = some (.lst xs) → Dts H xs ds → Dt H (.ref a) (.list ds)
  | tup {a : Addr} {xs : List V} {ds : List PyData} : H a = some (.tup xs) → Dts H xs ds → Dt H (.ref a) (.tuple ds)
inductive Dts (H : Hp) : List V → List PyData → Prop
  | nil : Dts H [] []
  | cons {v : V} {vs : List V} {d : PyData} {ds : List PyData} : Dt H v d → Dts H vs ds → Dts H (v :: vs) (d :: ds)
end
mutual
theorem Dt.same {H H' : Hp} (e : Same H H') : ∀ {d : PyData} {v : V}, Dt H v d → Dt H' v d
  | .none, _, .non => .non
  | .bool _, _, .bl b => .bl b
  | .int _, _, .int i => .int i
  | .str _, _, .str x => .str x
  | .list ds, _, .lst h t => .lst (e _ _ h) (Dts.same e t)
  | .tuple ds, _, .tup h t => .tup (e _ _ h) (Dts.same e t)
theorem Dts.same {H H' : Hp} (e : Same H H') : ∀ {ds : List PyData} {vs : List V}, Dts H vs ds → Dts H' vs ds
  | [], _, .nil => .nil
  | _ :: _, _, .cons h t => .cons (Dt.same e h) (Dts.same e t)
end
mutual
/-- a dict that changes is no part of data -/
theorem Dt.but {H H' : Hp} {p : Addr} {kvs : List (Key × V)} (hp : H p = some (.dK kvs)) (e : But p H H') : ∀ {d : PyData} {v : V}, Dt H v d → Dt H' v d
  | .none, _, .non => .non
  | .bool _, _, .bl b => .bl b
  | .int _, _, .int i => .int i
  | .str _, _, .str x => .str x
  | .list ds, _, .lst h t => .lst (e.1 _ _ h (ne_of h hp (by intro z; cases z))) (Dts.but hp e t)
  | .tuple ds, _, .tup h t => .tup (e.1 _ _ h (ne_of h hp (by intro z; cases z))) (Dts.but hp e t)
theorem Dts.but {H H' : Hp} {p : Addr} {kvs : List (Key × V)} (hp : H p = some (.dK kvs)) (e : But p H H') : ∀ {ds : List PyData} {vs : List V}, Dts H vs ds → Dts H' vs ds
  | [], _, .nil => .nil
  | _ :: _, _, .cons h t => .cons (Dt.but hp e h) (Dts.but hp e t)
end
mutual
theorem Dt.dp {K : PySem.W.Frag} {H : Hp} : ∀ {d : PyData} {v : V}, Dt H v d → Dp K H v d
  | .none, _, .non => .non
  | .bool _, _, .bl b => .bl b
  | .int _, _, .int i => .int i
  | .str _, _, .str x => .str x
  | .list ds, _, .lst h t => .lst (.inl (.inl h)) (Dts.dp t)
  | .tuple ds, _, .tup h t => .tup (.inl (.inl h)) (Dts.dp t)
theorem Dts.dp {K : PySem.W.Frag} {H : Hp} : ∀ {ds : List PyData} {vs : List V}, Dts H vs ds → DpAll K H vs ds
  | [], _, .nil => .nil
  | _ :: _, _, .cons h t => .cons (Dt.dp h) (Dts.dp t)
end
theorem Dts.len {H : Hp} : ∀ {ds : List PyData} {vs : List V}, Dts H vs ds → vs.length = ds.length
  | _, _, .nil => rfl
  | _, _, .cons _ t => by rw [List.length_cons, List.length_cons, Dts.len t]
theorem Dts.app {H : Hp} : ∀ {ds es : List PyData} {vs ws : List V}, Dts H vs ds → Dts H ws es → Dts H (vs ++ ws) (ds ++ es)
  | _, _, _, _, .nil, s => s
  | _, _, _, _, .cons h t, s => .cons h (Dts.app t s)
theorem Dts.get {H : Hp} : ∀ {ds : List PyData} {vs : List V} {i : Nat} {d : PyData}, Dts H vs ds → ds[i]? = some d → ∃ v, vs[i]? = some v ∧ Dt H v d
  | _, _, i, d, .nil, h => by simp at h
  | _, _, 0, d, .cons h t, e => by cases e; exact ⟨_, rfl, h⟩
  | _, _, i + 1, d, .cons h t, e => Dts.get (i := i) t e
theorem Dts.erase {H : Hp} : ∀ {ds : List PyData} {vs : List V} (i : Nat), Dts H vs ds → Dts H (vs.eraseIdx i) (ds.eraseIdx i)
  | _, _, _, .nil => .nil
  | _, _, 0, .cons _ t => t
  | _, _, i + 1, .cons h t => .cons h (Dts.erase i t)
theorem Dts.strs {H : Hp} : ∀ {zs : List Str} {vs : List V}, Dts H vs (zs.map PyData.str) → vs = zs.map V.str
  | [], _, .nil => rfl
  | z :: r, _, .cons (.str _) t => by rw [Dts.strs t]; rfl
theorem Dts.ints {H : Hp} : ∀ {zs : List Int} {vs : List V}, Dts H vs (zs.map PyData.int) → vs = zs.map V.int
  | [], _, .nil => rfl
  | z :: r, _, .cons (.int _) t => by rw [Dts.ints t]; rfl
theorem dts_strs {H : Hp} : ∀ zs : List Str, Dts H (zs.map V.str) (zs.map PyData.str)
  | [] => .nil
  | z :: r => .cons (.str z) (dts_strs r)
theorem dts_ints {H : Hp} : ∀ zs : List Int, Dts H (zs.map V.int) (zs.map PyData.int)
  | [] => .nil
  | z :: r => .cons (.int z) (dts_ints r)

theorem Dt.pair {H : Hp} {v : V} {d e : PyData} (h : Dt H v (.tuple [d, e])) : ∃ a x y, v = .ref a ∧ H a = some (.tup [x, y]) ∧ Dt H x d ∧ Dt H y e := by
  cases h with
  | tup h1 t1 =>
    cases t1 with
    | cons h2 t2 =>
      cases t2 with
      | cons h3 t3 =>
        cases t3
        exact ⟨_, _, _, rfl, h1, h2, h3⟩
theorem Dt.txt {H : Hp} {v : V} {z : Str} (h : Dt H v (.str z)) : v = .str z := by
  cases h
  rfl
theorem Dt.num {H : Hp} {v : V} {z : Int} (h : Dt H v (.int z)) : v = .int z := by
  cases h
  rfl
theorem Dt.list {H : Hp} {v : V} {ds : List PyData} (h : Dt H v (.list ds)) : ∃ a xs, v = .ref a ∧ H a = some (.lst xs) ∧ Dts H xs ds := by
  cases h with
  | lst h1 t1 => exact ⟨_, _, rfl, h1, t1⟩
theorem Dt.tuple {H : Hp} {v : V} {ds : List PyData} (h : Dt H v (.tuple ds)) : ∃ a xs, v = .ref a ∧ H a = some (.tup xs) ∧ Dts H xs ds := by
  cases h with
  | tup h1 t1 => exact ⟨_, _, rfl, h1, t1⟩

/-! ### what evaluates to data, leaving all that stands -/
def EvD (te : TE) (σ : L2.St) (H : Hp) (d : PyData) : Prop := ∀ H1, Same H H1 → ∀ Q : VK, (∀ v H2, Same H1 H2 → Dt H2 v d → Q v H2) → te σ H1 Q
def EvDs (ta : TA) (σ : L2.St) (H : Hp) (ds : List PyData) : Prop := ∀ H1, Same H H1 → ∀ Q : List V → Hp → Prop, (∀ vs H2, Same H1 H2 → Dts H2 vs ds → Q vs H2) → ta σ H1 Q
section
variable {K : PySem.W.Frag} {σ : L2.St} {H H' : Hp} {ta tb te : TE} {tr : TA} {d e : PyData} {ds es : List PyData}
theorem d_str {z : Str} : EvD (tC (.str z)) σ H (.str z) := fun H1 _ Q q => q _ H1 (Same.refl _) (.str z)
theorem d_int {z : Int} : EvD (tC (.int z)) σ H (.int z) := fun H1 _ Q q => q _ H1 (Same.refl _) (.int z)
theorem d_non : EvD (tC .non) σ H .none := fun H1 _ Q q => q _ H1 (Same.refl _) .non
theorem d_var {i : Nat} {v : V} (h : σ[i]? = some (some v)) (hd : Dt H v d) : EvD (tVar i) σ H d := fun H1 e Q q => ⟨v, h, q _ H1 (Same.refl _) (hd.same e)⟩
theorem d_nil : EvDs tNil σ H [] := fun H1 _ Q q => q _ H1 (Same.refl _) .nil
theorem d_cons (h : EvD ta σ H d) (t : EvDs tr σ H ds) : EvDs (tCons ta tr) σ H (d :: ds) := fun H1 e1 Q q =>
  h H1 e1 _ fun v H2 e2 hv => t H2 (e1.trans e2) _ fun vs H3 e3 hvs => q _ H3 (e2.trans e3) (.cons (hv.same e3) hvs)
theorem d_tup (t : EvDs tr σ H ds) (hl : ds.length ≤ 1000) : EvD (tTup tr) σ H (.tuple ds) := fun H1 e1 Q q =>
  t H1 e1 _ fun vs H2 e2 hvs => ⟨Nat.le_of_lt (small1000 (by rw [hvs.len]; exact hl)), fun p hp => q _ _ (Same.new e2 hp) (.tup upd_same (hvs.same (same_new hp)))⟩
theorem d_lst (t : EvDs tr σ H ds) (hl : ds.length ≤ 1000) : EvD (tLst tr) σ H (.list ds) := fun H1 e1 Q q =>
  t H1 e1 _ fun vs H2 e2 hvs => ⟨Nat.le_of_lt (small1000 (by rw [hvs.len]; exact hl)), fun p hp => q _ _ (Same.new e2 hp) (.lst upd_same (hvs.same (same_new hp)))⟩
theorem d_cat (ha : EvD ta σ H (.list ds)) (hb : EvD tb σ H (.list es)) (hl : ds.length + es.length ≤ 1000) : EvD (tOp rCat ta tb) σ H (.list (ds ++ es)) := fun H1 e1 Q q =>
  ha H1 e1 _ fun v H2 e2 hv => hb H2 (e1.trans e2) _ fun w H3 e3 hw => by
    cases hv with
    | lst h1 t1 =>
      cases hw with
      | lst h2 t2 =>
        exact ⟨_, _, _, _, rfl, rfl, e3 _ _ h1, h2, Nat.le_of_lt (small1000 (by rw [t1.len, t2.len]; exact hl)), fun p hp => q _ _ (Same.new (e2.trans e3) hp) (.lst upd_same (((t1.same e3).app t2).same (same_new hp)))⟩
theorem EvD.mono (h : EvD te σ H d) (e : Same H H') : EvD te σ H' d := fun H1 e1 Q q => h H1 (e.trans e1) Q q
theorem EvD.go {Q : VK} (h : EvD te σ H d) (q : ∀ v H2, Same H H2 → Dt H2 v d → Q v H2) : te σ H Q := h H (Same.refl _) Q q
/-- a call of a def that gives data -/
theorem d_call {sp : Sp} (h : EvDs tr σ H ds) (hs : ∀ vs H1, Same H H1 → Dts H1 vs ds → ∀ Q : VK, (∀ v H2, Same H1 H2 → Dt H2 v d → Q v H2) → sp vs H1 Q E0) : EvD (tCall sp [] E0 tr) σ H d := fun H1 e1 Q q =>
  h H1 e1 _ fun vs H2 e2 hvs => by
    rw [List.append_nil]
    exact hs vs H2 (e1.trans e2) hvs Q fun v H3 e3 hv => q v H3 (e2.trans e3) hv
end
section
variable {σ : L2.St} {H : Hp} {D : Ends} {te : TE} {d : PyData} {u : TS} {i : Nat}
theorem s_asgD (h : EvD te σ H d) (k : ∀ v H1, Same H H1 → Dt H1 v d → D.nx (σ.set i (some v)) H1) : tAsg te (gName i) D σ H := h.go fun v H1 e hv => k v H1 e hv
theorem q_asgD (h : EvD te σ H d) (k : ∀ v H1, Same H H1 → Dt H1 v d → u D (σ.set i (some v)) H1) : tSeq (tAsg te (gName i)) u D σ H := h.go fun v H1 e hv => k v H1 e hv
theorem s_retD (h : EvD te σ H d) (k : ∀ v H1, Same H H1 → Dt H1 v d → D.rt v H1) : tRet te D σ H := h.go fun v H1 e hv => k v H1 e hv
end
theorem eq_nilD {K : PySem.W.Frag} {H : Hp} {v : V} {q : Addr} {ds : List PyData} {Q : VK} (h : Dt H v (.list ds)) (hs : SeqAt.shaped (.list ds) = true) (hq : H q = some (.lst [])) (k : Q (.bl ds.isEmpty) H) : rEqD K v (.ref q) H Q := by
  obtain ⟨a, xs, rfl, ha, ht⟩ := h.list
  refine eq_nil (.inl (.inl ha)) ht.dp hs hq ?_
  have hl := ht.len
  cases ds with
  | nil => rw [List.length_eq_zero_iff.mp hl]; exact k
  | cons d r =>
    cases xs with
    | nil => cases hl
    | cons x y => exact k
theorem ne_nilD {K : PySem.W.Frag} {H : Hp} {v : V} {q : Addr} {ds : List PyData} {Q : VK} (h : Dt H v (.list ds)) (hs : SeqAt.shaped (.list ds) = true) (hq : H q = some (.lst [])) (k : Q (.bl (!ds.isEmpty)) H) : rNeD K v (.ref q) H Q := by
  obtain ⟨a, xs, rfl, ha, ht⟩ := h.list
  refine ne_nil (.inl (.inl ha)) ht.dp hs hq ?_
  have hl := ht.len
  cases ds with
  | nil => rw [List.length_eq_zero_iff.mp hl]; exact k
  | cons d r =>
    cases xs with
    | nil => cases hl
    | cons x y => exact k
/-! ### texts in lists -/
theorem flat_strs (zs : List Str) : (zs.map V.str).all flatV = true := by
  rw [List.all_map]
  exact List.all_eq_true.mpr fun z _ => rfl
theorem inV_strs (z : Str) (zs : List Str) : inV (.str z) (zs.map V.str) = decide (z ∈ zs) := by
  unfold inV
  rw [List.any_map]
  induction zs with
  | nil => rfl
  | cons y r ih =>
    rw [List.any_cons, ih]
    by_cases h : z = y
    · subst h
      simp [eqV]
    · simp [eqV, h]
      intro e
      exact absurd e.symm h
/-! ### comprehensions over data, whose items stood before -/
section
variable {K : PySem.W.Frag} {g : TG} {tt : TT} {te : TE} {vs : List Nat} {σ : L2.St} {H : Hp} {Q : VK} {J : It} {xs : List V} {S : Hp → Prop} {α : Type}
theorem lcg_old (hJ : JSeq J xs S) (hS : S H) (as : List α) (dat : α → PyData) (hxs : Dts H xs (as.map dat)) (hz : as.length < 100000) (fb : α → Bool) (fv : α → PyData)
    (hs : ∀ x a, a ∈ as → Dt H x (dat a) → ∀ H', Same H H' → ∀ (R1 : V → Hp → Prop) (R0 : Hp → Prop), (fb a = true → ∀ v H'', Same H' H'' → Dt H v (fv a) → R1 v H'') → (fb a = false → ∀ H'', Same H' H'' → R0 H'') →
      g x (wipe σ vs) H' fun σ2 H2 => wipe σ2 vs = wipe σ vs ∧ tt σ2 H2 fun b H3 => if b = true then te σ2 H3 R1 else R0 H3)
    (hd : ∀ D H', H D = none → Same H H' → Dt H' (.ref D) (.list ((as.filter fb).map fv)) → Q (.ref D) H') : LcG J g tt te vs σ H Q := by
  have hlen : xs.length = as.length := by rw [hxs.len, List.length_map]
  refine lcg_by hJ (fun D i acc H' => Same H H' ∧ H' D = some (.lst acc) ∧ Dts H acc (((as.take i).filter fb).map fv)) (fun D hD => ⟨same_new hD, upd_same, .nil⟩)
    (fun D i acc H' _ _ p => hJ.same _ _ hS p.1) (fun D i x acc H' hD hx p => ?_) (fun D acc H' hD p => ?_)
  · obtain ⟨p1, p2, p3⟩ := p
    have hi : i < as.length := hlen ▸ (List.getElem?_eq_some_iff.mp hx).1
    have ha : as[i]? = some as[i] := List.getElem?_eq_getElem hi
    obtain ⟨x', hx', hdx⟩ := hxs.get (i := i) (d := dat as[i]) (by rw [List.getElem?_map, ha]; rfl)
    rw [hx] at hx'
    cases hx'
    have tk : (((as.take (i + 1)).filter fb).map fv) = ((as.take i).filter fb).map fv ++ (if fb as[i] = true then [fv as[i]] else []) := by
      rw [List.take_add_one, ha, List.filter_append, List.map_append]
      cases h : fb as[i] with
      | true => simp [h]
      | false => simp [h]
    refine hs x as[i] (List.getElem_mem hi) hdx H' p1 _ _ (fun hb v H'' e hv => ?_) (fun hb H'' e => ?_)
    · refine ⟨acc, e _ _ p2, ?_, acc ++ [v], Same.mut (p1.trans e) hD, upd_same, ?_⟩
      · refine Nat.lt_of_lt_of_le (Nat.lt_of_le_of_lt (?_ : _ ≤ as.length) hz) (by decide)
        rw [p3.len, List.length_map]
        exact Nat.le_trans (List.length_filter_le _ _) (by rw [List.length_take]; exact Nat.min_le_right _ _)
      · rw [tk, if_pos hb]
        exact p3.app (.cons hv .nil)
    · refine ⟨acc, p1.trans e, e _ _ p2, ?_⟩
      rw [tk, if_neg (by rw [hb]; decide), List.append_nil]
      exact p3
  · obtain ⟨p1, p2, p3⟩ := p
    rw [hlen, List.take_length] at p3
    exact hd D H' hD p1 (.lst p2 (p3.same p1))
end
/-- a promise: from data to data -/
def spD (F : List PyData → Option PyData) : Sp := fun vs H Q _ => ∃ ds d, Dts H vs ds ∧ F ds = some d ∧ ∀ v H', Same H H' → Dt H' v d → Q v H'
theorem d_callF {σ : L2.St} {H : Hp} {tr : TA} {ds : List PyData} {d : PyData} {F : List PyData → Option PyData} (h : EvDs tr σ H ds) (hF : F ds = some d) : EvD (tCall (spD F) [] E0 tr) σ H d :=
  d_call h fun vs H1 e1 hvs Q q => ⟨ds, d, hvs, hF, q⟩
end Fp

/-! the rules with the written part told by name -/
namespace Fp
open PySem PySem.Spec PyProof.Rows L2
section
variable {X : Cx} (K : PySem.W.Frag)
theorem op_inK (hK : X.K = K := by rfl) : OpR X (compareOp .In) (rIn K false) := hK ▸ op_in_seq
theorem op_notInK (hK : X.K = K := by rfl) : OpR X (compareOp .NotIn) (rIn K true) := hK ▸ op_notIn_seq
theorem op_eqDK (hu : X.A.units + 64 < cLine) (hK : X.K = K := by rfl) : OpR X (compareOp .Eq) (rEqD K) := hK ▸ op_eqD hu
theorem op_neDK (hu : X.A.units + 64 < cLine) (hK : X.K = K := by rfl) : OpR X (compareOp .NotEq) (rNeD K) := hK ▸ op_neD hu
theorem call_lenK (hK : X.K = K := by rfl) : CallR X (.builtin "len") (rLenL K) := hK ▸ call_lenL
theorem call_listK (hK : X.K = K := by rfl) : CallR X (.type "list") (rListL K) := hK ▸ call_listL
theorem call_listTK (hK : X.K = K := by rfl) : CallR X (.type "list") (rListT K) := hK ▸ call_listT
def rTupL (K : PySem.W.Frag) : List V → Hp → VK → Prop := fun xs H Q => ∃ p ys, xs = [.ref p] ∧ SqL K H p ys ∧ ∀ l, H l = none → Q (.ref l) (upd H l (.tup ys))
theorem call_tupleK (hK : X.K = K := by rfl) : CallR X (.type "tuple") (rTupL K) := by
  subst hK
  intro pins s σ H xs us Q I r h
  obtain ⟨p, ys, e, h1, q⟩ := h
  exact call_tuple_of pins s σ H xs us Q I r ⟨p, ys, e, .inl ⟨h1, q⟩⟩
theorem call_allK (hc : X.calm = true) (hK : X.K = K := by rfl) : CallR X (.builtin "all") (rAll K) := hK ▸ cr_all hc
theorem ix_listK (hK : X.K = K := by rfl) : IxR X (rIxL K) := hK ▸ ix_list
theorem ix_tupK (hK : X.K = K := by rfl) : IxR X (rIxT K) := hK ▸ ix_tup
theorem ix_kdK (w : World) (hK : X.K = K := by rfl) (hw : X.w = w := by rfl) : IxR X (rIxD K w) := by
  subst hK hw
  exact ix_kdict
theorem sl_listK (hK : X.K = K := by rfl) : SlR X (rSlL K) := hK ▸ sl_list
variable {tg e o : Expr} {td : TE} {t : TA}
theorem pi_listK (he : PE X e td) (hK : X.K = K := by rfl) : PI X tg e (iList K td) := hK ▸ pi_list he
theorem pi_tupK (he : PE X e td) (hK : X.K = K := by rfl) : PI X tg e (iTup K td) := hK ▸ pi_tup he
theorem pi_kkK (he : PE X e td) (hK : X.K = K := by rfl) : PI X tg e (iKK K td) := hK ▸ pi_kk he
theorem pe_fldK {f : Str} {pos : Pos} (ho : PE X o td) (hb : attributeBase o f X.env (eval o X.env) = eval o X.env) (hK : X.K = K := by rfl) : PE X (.Attribute o f pos) (tFld K td f) := hK ▸ pe_fld ho hb
theorem ps_fldK {f : Str} {pos pos' : Pos} {v : Expr} {tv : TE} (ho : PE X o td) (hv : PE X v tv) (hs : swapsWith v (some (.Attribute o f pos')) pos.line X.env = pure false) (hK : X.K = K := by rfl) : PS X (.Assign [.Attribute o f pos'] v pos) (sFld K td tv f) := hK ▸ ps_fld ho hv hs
theorem pg_tupK {es : List Expr} {k n : Nat} {pos : Pos} {u : List V → L2.St → Hp → (L2.St → Hp → Prop) → Prop} (h : PG X (.Tuple es k pos) (gTup X.K n u)) (hK : X.K = K := by rfl) : PG X (.Tuple es k pos) (gTup K n u) := hK ▸ h
section
variable {T : String} {name : Str} {id : String} {to : TE} {r : V → List V → Hp → VK → Prop} {apos cpos : Pos} {es : List Expr}
theorem pe_bmK (hK : X.K = K := by rfl) (h : PE X (.Call (.Attribute o name apos) es [] cpos) (tBM X.K T r to t)) : PE X (.Call (.Attribute o name apos) es [] cpos) (tBM K T r to t) := hK ▸ h
theorem pe_bm0K (hK : X.K = K := by rfl) (h : PE X (.Call (.Attribute o name apos) es [] cpos) (tBM0 X.K T r to)) : PE X (.Call (.Attribute o name apos) es [] cpos) (tBM0 K T r to) := hK ▸ h
end
end
end Fp

namespace Fp
open PySem PySem.Spec PyProof.Rows L2
theorem seqi {t u : TS} {D : Ends} {σ : L2.St} {H : Hp} (h : ∀ k : L2.St → Hp → Prop, k = u D → t { D with nx := k } σ H) : tSeq t u D σ H := h _ rfl
theorem tSeq_eq {t u : TS} {D : Ends} {σ : L2.St} {H : Hp} : tSeq t u D σ H = t { D with nx := u D } σ H := rfl
section
variable {K : PySem.W.Frag} {P : Program} {w : World} {base : Heap} {mg : Str → Option Value}
theorem cxK {CX : CXT} {N : List Str} {qual : Str} {sc : Scope} {f : Addr} {cdv : Value} {A : Around} {outer : List Env} {s : Shared} {H : Hp} {E : XK} : (cxOf CX P w K mg base N qual sc f cdv A outer s H E).K = K := rfl
theorem cxKn {CX : CXT} {N : List Str} {qual : Str} {sc : Scope} {f : Addr} {cdv : Value} {A : Around} {outer : List Env} {s : Shared} {H : Hp} {E : XK} : (cxOf CX P w K mg base N qual sc f cdv A outer s H E).nox.K = K := rfl
end
local macro_rules | `(tactic| walk_at "rd1") => `(tactic| simp only [cxK, cxKn, tRet, tRetN, rIntI, rIntB, rLenL, rListL, rListT, rAbs, tDisp, tPairs, tC, tCB, tCons, tNil, tSl, tVar, tNoPart, tPart, rSlL, tOp, tAsg, gName, tIfS, tDrop, tTest, tAnd, tOr, Evl.tCut, tNot, tB, rI0, rI, rIxL, tDGet, sDPut, tLst, tTup, tBM, tBM0, tCall, tNext, List.getElem?_cons_zero, List.getElem?_cons_succ, Option.some.injEq, exists_and_left, exists_eq_left', exists_eq_left, List.cons.injEq, and_true, true_and, V.ref.injEq, V.int.injEq, V.str.injEq, V.bl.injEq, List.set_cons_zero, List.set_cons_succ])
def topS (i : Nat) : Stmt := PySem.Challenge.pw_foldplans_k02_whole_closures.main.body.getD i (.Pass ⟨0, 0, 0, 0⟩)
section
variable {K : PySem.W.Frag} {P : Program} {w : World} {base : Heap} {mg : Str → Option Value}
abbrev s__law_pen : Stmt := topS 13
theorem sc__law_pen : FnScope ["script"] ["script"] (defScope s__law_pen) := ⟨rfl, rfl, rfl, by decide +kernel, rfl, by decide +kernel, by decide +kernel⟩
theorem ok_pen {f : Addr} {fd : FuncData} (F : Fun K "_law_pen" "_law_pen" s__law_pen f fd) (m_list : mg "list" = none) : FnOk P w K mg base CX0 1 f fd ["script"] (spPen K) := by
  refine F.ok sc__law_pen (fun vs H Q E h => ?_) (fun cdv A outer s H vs Q E hr h => ?_)
  · obtain ⟨a, ns, rfl, _⟩ := h
    rfl
  · obtain ⟨a, ns, rfl, hS, hlen, q⟩ := h
    refine ⟨_, (pss_one (ps_ret (pe_disp (pps_cons pe_str (pe_callTy call_listL (by rfl) m_list (by decide +kernel) (pa_cons (pe_slice sl_list (pv 0) po_none (po_some pe_int)) pa_nil)) (pps_cons pe_str pe_int (pps_cons pe_str pe_int pps_nil))) rfl rfl (by simp) (by decide)))), ?_⟩
    show tRet _ _ [some (.ref a)] H
    walk_at "rd1"
    intro p hp
    refine ⟨_, (same_new hp).seq hS, fun c hc => ⟨_, .inl (.inl upd_same), fun l hl => ⟨?_, penK l 0 0, rfl, (show 3 ≤ 15 by decide), ?_⟩⟩⟩
    · have h1 : p ≠ l := ne_of_none (show upd (upd H p (.dK [])) c _ p = some _ by rw [upd_ne (ne_of_none upd_same hc), upd_same]) hl
      rw [upd_ne h1, upd_ne (ne_of_none upd_same hc), upd_same]
    · refine q _ p l hp ?_ ⟨ns.take 63, 0, 0, upd_same, ?_, ?_, by decide, by decide⟩
      · exact Same.mut (Same.new (Same.new (same_new hp) hc) hl) hp
      · have h1 : p ≠ l := ne_of_none (show upd (upd H p (.dK [])) c _ p = some _ by rw [upd_ne (ne_of_none upd_same hc), upd_same]) hl
        rw [upd_ne h1.symm, upd_same, show (63 : Int) = ((63 : Nat) : Int) from rfl, cut_to, List.map_take]
      · rw [List.length_take]; omega
abbrev s__law_draw : Stmt := topS 14
theorem sc__law_draw : FnScope ["pen", "span", "digit", "turn", "cell", "mixed"] ["pen", "span"] (defScope s__law_draw) := ⟨rfl, rfl, rfl, by decide +kernel, rfl, by decide +kernel, by decide +kernel⟩
theorem ok_draw {f : Addr} {fd : FuncData} (F : Fun K "_law_draw" "_law_draw" s__law_draw f fd) (m_int : mg "int" = none) (m_len : mg "len" = none) (m_abs : mg "abs" = none) : FnOk P w K mg base CX0 1 f fd ["pen", "span"] spDraw := by
  refine F.ok sc__law_draw (fun vs H Q E h => ?_) (fun cdv A outer s H vs Q E hr h => ?_)
  · obtain ⟨p, c, span, t, rfl, _⟩ := h
    rfl
  · obtain ⟨p, c, span, t, rfl, hP, ht, hs0, hs1, q⟩ := h
    have hu := hu_of hr
    have hu64 := hr.units
    refine ⟨_, (pss_cons (ps_if (pt_cmpR op_gt (pe_dget hu (pv 0) pe_str (fun _ _ => rfl)) pe_int (nomark _))
      (pss_cons (ps_set (i := 2) sc__law_draw.nd rfl (.inl rfl) (pe_op op_mod (pe_callTy call_intI (by rfl) m_int (by decide +kernel) (pa_cons (pe_dget hu (pv 0) pe_str (fun _ _ => rfl)) pa_nil)) (pv 1)))
        (pss_cons (ps_dput hu (pv 0) pe_str (pe_op op_fdivW (pe_dget hu (pv 0) pe_str (fun _ _ => rfl)) (pv 1)) rfl)
        (pss_one (ps_ret (pv 2)))))
      pss_nil)
    (pss_cons (ps_set (i := 3) sc__law_draw.nd rfl (.inl rfl) (pe_dget hu (pv 0) pe_str (fun _ _ => rfl)))
    (pss_cons (ps_dput hu (pv 0) pe_str (pe_op op_add (pv 3) pe_int) rfl)
    (pss_cons (ps_set (i := 4) sc__law_draw.nd rfl (.inl rfl) (pe_op op_add (pe_op op_mul pe_int (pv 3)) pe_int))
    (Evl.pss_cut (ps_if (pt_cmpR (op_neD hu64) (pe_dget hu (pv 0) pe_str (fun _ _ => rfl)) (pe_lst pa_nil) (nomark _))
      (pss_one (ps_set (i := 4) sc__law_draw.nd rfl (.inl rfl) (pe_ix ix_list (pe_dget hu (pv 0) pe_str (fun _ _ => rfl)) (pe_op op_mod (pe_callTy call_intI (by rfl) m_int (by decide +kernel) (pa_cons (pv 3) pa_nil)) (pe_callB call_lenL (by rfl) m_len PySem.boot_len (pa_cons (pe_dget hu (pv 0) pe_str (fun _ _ => rfl)) pa_nil))) (fun _ _ => rfl))))
      pss_nil)
    (pss_cons (ps_if (PW.pt (pw_and (pt_cmpR op_lt (pv 3) (pe_callB call_lenL (by rfl) m_len PySem.boot_len (pa_cons (pe_dget hu (pv 0) pe_str (fun _ _ => rfl)) pa_nil)) (nomark _)) (pw_and1 (pt_cmpR op_ge (pe_callB call_absI (by rfl) m_abs (by decide +kernel) (pa_cons (pv 4) pa_nil)) (pe_op op_pow pe_int pe_int) (nomark _)))))
      (pss_cons (ps_dput hu (pv 0) pe_str (pe_op op_fdivW (pe_op op_sub (pe_callB call_absI (by rfl) m_abs (by decide +kernel) (pa_cons (pv 4) pa_nil)) (pe_op op_pow pe_int pe_int)) (pv 1)) rfl)
        (pss_one (ps_ret (pe_op op_mod (pe_callTy call_intI (by rfl) m_int (by decide +kernel) (pa_cons (pe_op op_sub (pe_callB call_absI (by rfl) m_abs (by decide +kernel) (pa_cons (pv 4) pa_nil)) (pe_op op_pow pe_int pe_int)) pa_nil)) (pv 1)))))
      pss_nil)
    (pss_cons (ps_set (i := 5) sc__law_draw.nd rfl (.inl rfl) (pe_op op_mul (pe_op op_mod (pe_callTy call_intI (by rfl) m_int (by decide +kernel) (pa_cons (pv 4) pa_nil)) pe_int) pe_int))
    (pss_cons (ps_set (i := 5) sc__law_draw.nd rfl (.inl rfl) (pe_op op_mod (pe_callTy call_intI (by rfl) m_int (by decide +kernel) (pa_cons (pe_op op_add (pe_op op_add (pv 5) (pe_op op_mul (pv 3) (pe_op op_add (pe_op op_mul (pv 3) pe_int) pe_int))) pe_int) pa_nil)) pe_int))
    (pss_cons (ps_set (i := 5) sc__law_draw.nd rfl (.inl rfl) (pe_op op_mod (pe_callTy call_intI (by rfl) m_int (by decide +kernel) (pa_cons (pe_op op_mul (pv 5) (pe_op op_add (pv 5) pe_int)) pa_nil)) pe_int))
    (pss_cons (ps_set (i := 5) sc__law_draw.nd rfl (.inl rfl) (pe_op op_mod (pe_callTy call_intI (by rfl) m_int (by decide +kernel) (pa_cons (pe_op op_add (pe_op op_add (pe_op op_mul (pv 5) (pv 5)) (pe_op op_mul pe_int (pv 5))) (pe_op op_mul pe_int (pv 3))) pa_nil)) pe_int))
    (pss_one (ps_ret (pe_op op_mod (pe_callTy call_intI (by rfl) m_int (by decide +kernel) (pa_cons (pe_op op_fdivW (pe_op op_mod (pe_callTy call_intI (by rfl) m_int (by decide +kernel) (pa_cons (pe_op op_mul (pv 5) (pe_op op_add (pv 5) pe_int)) pa_nil)) pe_int) pe_int) pa_nil)) (pv 1)))))))))))))), ?_⟩
    show tSeq _ _ _ [some (.ref p), some (.int span), none, none, none, none] H
    obtain ⟨cells, turn, left, h1, h2, h3, h4, h5⟩ := hP.ex
    have hmul : ∀ x : Int, 0 ≤ x → x < 4294967296 → ∀ y, CMul x y := fun x h0 h1 y => .inl ⟨by omega, by omega⟩
    refine seqi fun k hk => ?_
    walk_at "rd1"
    refine dg_s h1 (pen_left _ _ _) ⟨_, rfl, ite2 (fun hl => ?_) (fun hl => ?_)⟩
    · refine seqi fun k hk => ?_
      walk_at "rd1"
      refine dg_s h1 (pen_left _ _ _) ⟨_, rfl, hs0, ?_⟩
      subst hk
      refine seqi fun k hk => ?_
      walk_at "rd1"
      refine dg_s h1 (pen_left _ _ _) ⟨_, rfl, ⟨hs0, hs1⟩, ?_⟩
      refine dp_s h1 (pen_len _ _ _) ?_
      rw [pen_putL]
      subst hk
      walk_at "rd1"
      refine q _ _ (Int.emod_nonneg _ (by omega)) (Int.emod_lt_of_pos _ hs0) ⟨cells, turn, _, upd_same, ?_, h3, h4, by omega⟩ ⟨fun b o hb n => by rw [upd_ne n]; exact hb, fun _ => by rw [upd_same]; intro z; cases z⟩
      rw [upd_ne (ne_of h2 h1 (by intro z; cases z))]
      exact h2
    · subst hk
      refine seqi fun k hk => ?_
      walk_at "rd1"
      refine dg_s h1 (pen_turn _ _ _) ?_
      subst hk
      refine seqi fun k hk => ?_
      walk_at "rd1"
      refine dp_s h1 (pen_len _ _ _) ?_
      rw [pen_putT]
      have b1 : But p H (upd H p (.dK (penK c (turn + 1) left))) := ⟨fun b o hb n => by rw [upd_ne n]; exact hb, fun _ => by rw [upd_same]; intro z; cases z⟩
      have h1' : (upd H p (.dK (penK c (turn + 1) left))) p = some (.dK (penK c (turn + 1) left)) := upd_same
      have h2' : (upd H p (.dK (penK c (turn + 1) left))) c = some (.lst (cells.map V.int)) := by
        rw [upd_ne (ne_of h2 h1 (by intro z; cases z))]
        exact h2
      revert h1' h2' b1
      generalize (upd H p (.dK (penK c (turn + 1) left))) = H1
      intro b1 h1' h2'
      subst hk
      refine seqi fun k hk => ?_
      walk_at "rd1"
      subst hk
      refine ⟨.inl ⟨by decide, by decide⟩, fun σ' H' => ∃ cell : Int, σ' = [some (.ref p), some (.int span), none, some (.int turn), some (.int cell), none] ∧ Same H1 H', ?_, ?_⟩
      · walk_at "rd1"
        refine dg_s h1' (pen_cells _ _ _) ⟨Nat.zero_le _, fun d hd => ?_⟩
        have s2 : Same H1 (upd H1 d (.lst [])) := same_new hd
        have hc : SqL K (upd H1 d (.lst [])) c (cells.map V.int) := .inl (.inl (s2 _ _ h2'))
        refine ne_nil hc (dp_ints _ _ _) (shaped_ints _) upd_same ⟨_, rfl, ite2 (fun hn => ?_) (fun hn => ?_)⟩
        · have h0 : cells ≠ [] := fun z => by
            subst z
            exact absurd hn (by decide)
          obtain ⟨v, hv⟩ := ix_mod (ns := cells) (t := turn) h0
          have hl0 : (0 : Int) < ((cells.map V.int).length : Nat) := by
            rw [List.length_map]
            cases cells with
            | nil => exact absurd rfl h0
            | cons x r => show (0 : Int) < ((r.length + 1 : Nat) : Int); omega
          exact dg_s (s2 _ _ h1') (pen_cells _ _ _) (dg_s (s2 _ _ h1') (pen_cells _ _ _) ⟨_, rfl, _, hc, hl0, _, rfl, _, hc, _, hv, _, rfl, s2⟩)
        · exact s2
      · rintro σ' H2 ⟨cell, rfl, s2⟩
        have h1'' := s2 _ _ h1'
        have h2'' := s2 _ _ h2'
        have b2 : But p H H2 := b1.trans (But.of s2)
        refine seqi fun k hk => ?_
        have go : k [some (V.ref p), some (V.int span), none, some (V.int turn), some (V.int cell), none] H2 := by
          subst hk
          refine seqi fun k hk => ?_
          walk_at "rd1"
          refine ⟨by decide, .inr ⟨by decide, by decide⟩, ?_⟩
          subst hk
          refine seqi fun k hk => ?_
          walk_at "rd1"
          refine ⟨.inr ⟨by decide, by decide⟩, .inl ⟨by omega, by omega⟩, by decide, ?_⟩
          generalize hm : (_ : Int) % 4294967029 = m
          have m0 : 0 ≤ m := by rw [← hm]; exact Int.emod_nonneg _ (by decide)
          have m1 : m < 4294967296 := by have := Int.emod_lt_of_pos (cell % 4294967087 * 48611 + turn * (turn * 27919 + 10601) + 41) (show (0 : Int) < 4294967029 by decide); omega
          clear hm
          subst hk
          refine seqi fun k hk => ?_
          walk_at "rd1"
          refine ⟨hmul _ m0 m1 _, by decide, ?_⟩
          obtain ⟨m2, hm2⟩ : ∃ m2, m * (m + 75013) % 4294966997 = m2 := ⟨_, rfl⟩
          have m3 : 0 ≤ m2 := by rw [← hm2]; exact Int.emod_nonneg _ (by decide)
          have m4 : m2 < 4294967296 := by have := Int.emod_lt_of_pos (m * (m + 75013)) (show (0 : Int) < 4294966997 by decide); omega
          rw [hm2]
          subst hk
          refine seqi fun k hk => ?_
          walk_at "rd1"
          refine ⟨hmul _ m3 m4 _, .inl ⟨by decide, by decide⟩, .inl ⟨by decide, by decide⟩, by decide, ?_⟩
          obtain ⟨m5, hm5⟩ : ∃ m5, (m2 * m2 + 30427 * m2 + 19 * turn) % 4294966981 = m5 := ⟨_, rfl⟩
          have m6 : 0 ≤ m5 := by rw [← hm5]; exact Int.emod_nonneg _ (by decide)
          have m7 : m5 < 4294967296 := by have := Int.emod_lt_of_pos (m2 * m2 + 30427 * m2 + 19 * turn) (show (0 : Int) < 4294966981 by decide); omega
          rw [hm5]
          subst hk
          walk_at "rd1"
          refine ⟨hmul _ m6 m7 _, by decide, ⟨by decide, by decide⟩, hs0, ?_⟩
          exact q _ _ (Int.emod_nonneg _ (by omega)) (Int.emod_lt_of_pos _ hs0) ⟨cells, turn + 1, left, h1'', h2'', h3, by omega, by omega⟩ b2
        walk_at "rd1"
        refine dg_s h1'' (pen_cells _ _ _) ⟨_, rfl, _, .inl (.inl h2''), ite2 (fun ht => ?_) (fun ht => go)⟩
        refine ⟨⟨by decide, by decide, by decide⟩, ite2 (fun hge => ?_) (fun hge => go)⟩
        clear go
        refine seqi fun k2 hk2 => ?_
        walk_at "rd1"
        refine ⟨⟨by decide, by decide, by decide⟩, ⟨hs0, hs1⟩, dp_s h1'' (pen_len _ _ _) ?_⟩
        rw [pen_putL]
        subst hk2
        walk_at "rd1"
        refine ⟨⟨by decide, by decide, by decide⟩, hs0, ?_⟩
        refine q _ _ (Int.emod_nonneg _ (by omega)) (Int.emod_lt_of_pos _ hs0) ⟨cells, turn + 1, _, upd_same, ?_, h3, by omega, by omega⟩ (b2.trans ⟨fun b o hb n => by rw [upd_ne n]; exact hb, fun _ => by rw [upd_same]; intro z; cases z⟩)
        rw [upd_ne (ne_of h2'' h1'' (by intro z; cases z))]
        exact h2''
end
end Fp

namespace Fp
open PySem PySem.Spec PyProof.Rows L2
local macro_rules | `(tactic| walk_at "rd") => `(tactic| simp only [cxK, cxKn, tRet, tRetN, rIntI, rIntB, rLenL, rListL, rListT, rAbs, tDisp, tPairs, tC, tCB, tCons, tNil, tSl, tVar, tNoPart, tPart, rSlL, tOp, tAsg, gName, tIfS, tDrop, tTest, tAnd, tOr, Evl.tCut, tNot, tB, rI0, rI, rIxL, rIxT, rIxD, tDGet, sDPut, tLst, tTup, tBM, tBM0, tCall, tNext, lc_iL, lc_iT, lc_iK, lc_iR, fr_iL, fr_iT, fr_iR, tYes, rIn, rEq, rNe, gTup, gCons, gNil, wipe, tMeth, tFld, sFld, tMake, tProp, tIf, tAndV, tOrV, tNotV, if_true, if_false, Bool.false_eq_true, List.map_cons, List.map_nil, List.nil_append, List.append_nil, List.cons_append, List.getElem?_cons_zero, List.getElem?_cons_succ, Option.some.injEq, exists_and_left, exists_eq_left', exists_eq_left, List.cons.injEq, and_true, true_and, V.ref.injEq, V.int.injEq, V.str.injEq, V.bl.injEq, List.set_cons_zero, List.set_cons_succ])
/-! ### the mathematics: rules by number -/
def rn (i : Nat) : Str := (["grouping", "order", "middle", "first", "last", "ends", "keep", "take", "vanish"] : List Str).getD i ""
def kn (i : Nat) : Str := (["trees", "pairs", "words", "bags", "parity", "middles", "heads", "tails", "sets", "outer", "lefts", "rights", "one"] : List Str).getD i ""
def KR (i : Nat) : List Nat := [[], [1], [0], [0, 1], [0, 1, 8], [0, 2], [0, 2, 3], [0, 2, 4], [0, 1, 2, 3, 4], [0, 2, 5], [0, 2, 3, 5, 6], [0, 2, 4, 5, 7], [0, 1, 2, 3, 4, 5, 6, 7, 8]].getD i []
abbrev R9 : List Nat := [0, 1, 2, 3, 4, 5, 6, 7, 8]
abbrev K13 : List Nat := [0, 1, 2, 3, 4, 5, 6, 7, 8, 9, 10, 11, 12]
def ruD (l : List Nat) : PyData := .list (l.map fun i => .str (rn i))
def kiD (i : Nat) : PyData := .tuple [.str (kn i), ruD (KR i)]
def thD : PyData := .list (K13.map kiD)
section
variable {K : PySem.W.Frag} {P : Program} {w : World} {base : Heap} {mg : Str → Option Value}
def spNine : Sp := fun vs H Q _ => vs = [] ∧ ∀ v H', Same H H' → Dt H' v (ruD R9) → Q v H'
def spThir : Sp := fun vs H Q _ => vs = [] ∧ ∀ v H', Same H H' → Dt H' v thD → Q v H'
abbrev s__law_nine : Stmt := topS 16
theorem sc__law_nine : FnScope [] [] (defScope s__law_nine) := ⟨rfl, rfl, rfl, by decide +kernel, rfl, by decide +kernel, by decide +kernel⟩
theorem ok_nine {f : Addr} {fd : FuncData} (F : Fun K "_law_nine" "_law_nine" s__law_nine f fd) : FnOk P w K mg base CX0 1 f fd [] spNine := by
  refine F.ok sc__law_nine (fun vs H Q E h => ?_) (fun cdv A outer s H vs Q E hr h => ?_)
  · obtain ⟨rfl, _⟩ := h
    rfl
  · obtain ⟨rfl, q⟩ := h
    refine ⟨_, (pss_one (ps_ret (pe_lst (pa_cons pe_str (pa_cons pe_str (pa_cons pe_str (pa_cons pe_str (pa_cons pe_str (pa_cons pe_str (pa_cons pe_str (pa_cons pe_str (pa_cons pe_str pa_nil)))))))))))), ?_⟩
    refine (d_lst (ds := R9.map fun i => PyData.str (rn i)) ?_ (by decide)).go q
    repeat (first | exact d_nil | refine d_cons d_str ?_)
abbrev s__law_thirteen : Stmt := topS 17
theorem sc__law_thirteen : FnScope ["high", "found"] [] (defScope s__law_thirteen) := ⟨rfl, rfl, rfl, by decide +kernel, rfl, by decide +kernel, by decide +kernel⟩
theorem ok_thirteen {f : Addr} {fd : FuncData} (F : Fun K "_law_thirteen" "_law_thirteen" s__law_thirteen f fd) (D_law_nine : Dn P w K mg base 1 "_law_nine" [] spNine) : FnOk P w K mg base CX0 2 f fd [] spThir := by
  refine F.ok sc__law_thirteen (fun vs H Q E h => ?_) (fun cdv A outer s H vs Q E hr h => ?_)
  · obtain ⟨rfl, _⟩ := h
    rfl
  · obtain ⟨rfl, q⟩ := h
    refine ⟨_, (pss_cons (ps_set (i := 0) sc__law_thirteen.nd rfl (.inl rfl) (pe_lst (pa_cons pe_str (pa_cons pe_str pa_nil))))
    (pss_cons (ps_set (i := 1) sc__law_thirteen.nd rfl (.inl rfl) (pe_lst (pa_cons (pe_tup (pa_cons pe_str (pa_cons (pe_lst pa_nil) pa_nil))) (pa_cons (pe_tup (pa_cons pe_str (pa_cons (pe_lst (pa_cons pe_str pa_nil)) pa_nil))) (pa_cons (pe_tup (pa_cons pe_str (pa_cons (pe_lst (pa_cons pe_str pa_nil)) pa_nil))) (pa_cons (pe_tup (pa_cons pe_str (pa_cons (pe_lst (pa_cons pe_str (pa_cons pe_str pa_nil))) pa_nil))) pa_nil))))))
    (pss_cons (ps_set (i := 1) sc__law_thirteen.nd rfl (.inl rfl) (pe_op op_cat (pv 1) (pe_lst (pa_cons (pe_tup (pa_cons pe_str (pa_cons (pe_lst (pa_cons pe_str (pa_cons pe_str (pa_cons pe_str pa_nil)))) pa_nil))) (pa_cons (pe_tup (pa_cons pe_str (pa_cons (pv 0) pa_nil))) (pa_cons (pe_tup (pa_cons pe_str (pa_cons (pe_op op_cat (pv 0) (pe_lst (pa_cons pe_str pa_nil))) pa_nil))) pa_nil))))))
    (pss_cons (ps_set (i := 1) sc__law_thirteen.nd rfl (.inl rfl) (pe_op op_cat (pv 1) (pe_lst (pa_cons (pe_tup (pa_cons pe_str (pa_cons (pe_op op_cat (pv 0) (pe_lst (pa_cons pe_str pa_nil))) pa_nil))) (pa_cons (pe_tup (pa_cons pe_str (pa_cons (pe_lst (pa_cons pe_str (pa_cons pe_str (pa_cons pe_str (pa_cons pe_str (pa_cons pe_str pa_nil)))))) pa_nil))) pa_nil)))))
    (pss_cons (ps_set (i := 1) sc__law_thirteen.nd rfl (.inl rfl) (pe_op op_cat (pv 1) (pe_lst (pa_cons (pe_tup (pa_cons pe_str (pa_cons (pe_op op_cat (pv 0) (pe_lst (pa_cons pe_str pa_nil))) pa_nil))) (pa_cons (pe_tup (pa_cons pe_str (pa_cons (pe_op op_cat (pv 0) (pe_lst (pa_cons pe_str (pa_cons pe_str (pa_cons pe_str pa_nil))))) pa_nil))) pa_nil)))))
    (pss_one (ps_ret (pe_op op_cat (pv 1) (pe_lst (pa_cons (pe_tup (pa_cons pe_str (pa_cons (pe_op op_cat (pv 0) (pe_lst (pa_cons pe_str (pa_cons pe_str (pa_cons pe_str pa_nil))))) pa_nil))) (pa_cons (pe_tup (pa_cons pe_str (pa_cons (pd0 D_law_nine (hr.mono (by decide)) (by rfl)) pa_nil))) pa_nil))))))))))), ?_⟩
    have hc : ∀ {σ : L2.St} {H : Hp}, EvD (tCall spNine [] E0 tNil) σ H (ruD R9) := d_call d_nil fun vs H1 e1 hvs Q q => by
      cases hvs
      exact ⟨rfl, fun v H' e h => q v H' e h⟩
    refine q_asgD (d := ruD [0, 2]) ?_ fun v0 H1 e1 h0 => ?_
    · refine d_lst (ds := [.str (rn 0), .str (rn 2)]) ?_ (by decide)
      repeat (first | exact d_nil | refine d_cons d_str ?_)
    refine q_asgD (d := .list ([0, 1, 2, 3].map kiD)) ?_ fun v1 H2 e2 h1 => ?_
    · refine d_lst (ds := [0, 1, 2, 3].map kiD) ?_ (by decide)
      repeat' (first | exact d_nil | exact d_str | exact hc | exact d_var rfl h0 | refine d_cons ?_ ?_ | refine d_tup (ds := [_, _]) ?_ (show (2 : Nat) ≤ 1000 by decide) | refine d_cat (ds := List.map _ [0, 2]) (d_var rfl h0) ?_ (by decide) | refine d_lst ?_ (by decide))
    have h0 := h0.same e2
    refine q_asgD (d := .list ([0, 1, 2, 3, 4, 5, 6].map kiD)) ?_ fun v2 H3 e3 h2 => ?_
    · refine d_cat (ds := [0, 1, 2, 3].map kiD) (es := [4, 5, 6].map kiD) (d_var rfl h1) (d_lst ?_ (by decide)) (by decide)
      repeat' (first | exact d_nil | exact d_str | exact hc | exact d_var rfl h0 | refine d_cons ?_ ?_ | refine d_tup (ds := [_, _]) ?_ (show (2 : Nat) ≤ 1000 by decide) | refine d_cat (ds := List.map _ [0, 2]) (d_var rfl h0) ?_ (by decide) | refine d_lst ?_ (by decide))
    have h0 := h0.same e3
    refine q_asgD (d := .list ([0, 1, 2, 3, 4, 5, 6, 7, 8].map kiD)) ?_ fun v3 H4 e4 h3 => ?_
    · refine d_cat (ds := [0, 1, 2, 3, 4, 5, 6].map kiD) (es := [7, 8].map kiD) (d_var rfl h2) (d_lst ?_ (by decide)) (by decide)
      repeat' (first | exact d_nil | exact d_str | exact hc | exact d_var rfl h0 | refine d_cons ?_ ?_ | refine d_tup (ds := [_, _]) ?_ (show (2 : Nat) ≤ 1000 by decide) | refine d_cat (ds := List.map _ [0, 2]) (d_var rfl h0) ?_ (by decide) | refine d_lst ?_ (by decide))
    have h0 := h0.same e4
    refine q_asgD (d := .list ([0, 1, 2, 3, 4, 5, 6, 7, 8, 9, 10].map kiD)) ?_ fun v4 H5 e5 h4 => ?_
    · refine d_cat (ds := [0, 1, 2, 3, 4, 5, 6, 7, 8].map kiD) (es := [9, 10].map kiD) (d_var rfl h3) (d_lst ?_ (by decide)) (by decide)
      repeat' (first | exact d_nil | exact d_str | exact hc | exact d_var rfl h0 | refine d_cons ?_ ?_ | refine d_tup (ds := [_, _]) ?_ (show (2 : Nat) ≤ 1000 by decide) | refine d_cat (ds := List.map _ [0, 2]) (d_var rfl h0) ?_ (by decide) | refine d_lst ?_ (by decide))
    have h0 := h0.same e5
    refine s_retD (d := thD) ?_ fun v H6 e6 h => q v H6 (((((e1.trans e2).trans e3).trans e4).trans e5).trans e6) h
    refine d_cat (ds := [0, 1, 2, 3, 4, 5, 6, 7, 8, 9, 10].map kiD) (es := [11, 12].map kiD) (d_var rfl h4) (d_lst ?_ (by decide)) (by decide)
    repeat' (first | exact d_nil | exact d_str | exact hc | exact d_var rfl h0 | refine d_cons ?_ ?_ | refine d_tup (ds := [_, _]) ?_ (show (2 : Nat) ≤ 1000 by decide) | refine d_cat (ds := List.map _ [0, 2]) (d_var rfl h0) ?_ (by decide) | refine d_lst ?_ (by decide))
end
end Fp

namespace Fp
open PySem PySem.Spec PyProof.Rows L2
local macro_rules | `(tactic| walk_at "rd") => `(tactic| simp only [cxK, cxKn, tRet, tRetN, rIntI, rIntB, rLenL, rListL, rListT, rAbs, tDisp, tPairs, tC, tCB, tCons, tNil, tSl, tVar, tNoPart, tPart, rSlL, tOp, tAsg, gName, tIfS, tDrop, tTest, tAnd, tOr, Evl.tCut, tNot, tB, rI0, rI, rIxL, rIxT, rIxD, tDGet, sDPut, tLst, tTup, tBM, tBM0, tCall, tNext, lc_iL, lc_iT, lc_iK, lc_iR, fr_iL, fr_iT, fr_iR, tYes, rIn, rEq, rNe, gTup, gCons, gNil, wipe, tMeth, tFld, sFld, tMake, tProp, tIf, tAndV, tOrV, tNotV, if_true, if_false, Bool.false_eq_true, List.map_cons, List.map_nil, List.nil_append, List.append_nil, List.cons_append, List.getElem?_cons_zero, List.getElem?_cons_succ, Option.some.injEq, exists_and_left, exists_eq_left', exists_eq_left, List.cons.injEq, and_true, true_and, V.ref.injEq, V.int.injEq, V.str.injEq, V.bl.injEq, List.set_cons_zero, List.set_cons_succ])
/-! ### more mathematics -/
def hasB (k : Nat) (ns : List Nat) : Bool := ns.all fun n => decide (n ∈ KR k)
def clos (ns : List Nat) : List Nat := R9.filter fun r => ((K13.filter fun k => hasB k ns).filter fun k => !decide (r ∈ KR k)).isEmpty
theorem rn_inj : ∀ i ∈ R9, ∀ j ∈ R9, rn i = rn j → i = j := by decide
def rS (l : List Nat) : List Str := l.map rn
theorem mem_rS {i : Nat} {l : List Nat} (hi : i ∈ R9) (hl : ∀ j ∈ l, j ∈ R9) : (rn i ∈ rS l) = (i ∈ l) := propext ⟨fun h => by
  obtain ⟨j, hj, e⟩ := List.mem_map.mp h
  rw [← rn_inj j (hl j hj) i hi e]
  exact hj, fun h => List.mem_map_of_mem h⟩
theorem KR_in : ∀ k ∈ K13, ∀ j ∈ KR k, j ∈ R9 := by decide
theorem ruD_eq (l : List Nat) : ruD l = .list ((rS l).map PyData.str) := by
  unfold ruD rS
  rw [List.map_map]
  rfl
theorem shp_rn : ∀ i ∈ R9, (PyData.str (rn i)).canLay0 = true ∧ (PyData.str (rn i)).depth ≤ 0 := by decide +kernel
theorem shp_ru {l : List Nat} (h : ∀ j ∈ l, j ∈ R9) : Shp 1 (ruD l) := shp_lst fun d hd => by
  obtain ⟨i, hi, rfl⟩ := List.mem_map.mp hd
  exact shp_rn i (h i hi)
theorem filter_empty {α : Type} (p : α → Bool) : ∀ l : List α, (l.filter fun x => !p x).isEmpty = l.all p
  | [] => rfl
  | x :: r => by
    rw [List.filter_cons, List.all_cons, ← filter_empty p r]
    cases p x with
    | true => rfl
    | false => rfl
theorem map_empty {α β : Type} (f : α → β) (l : List α) : (l.map f).isEmpty = l.isEmpty := by cases l <;> rfl
theorem dts_rS {H : Hp} : ∀ l : List Nat, Dts H ((rS l).map V.str) (l.map fun n => PyData.str (rn n))
  | [] => .nil
  | n :: r => .cons (.str _) (dts_rS r)
theorem Dt.rules {H : Hp} {v : V} {l : List Nat} (h : Dt H v (ruD l)) : ∃ a, v = .ref a ∧ H a = some (.lst ((rS l).map V.str)) := by
  rw [ruD_eq] at h
  cases h with
  | lst h1 t => exact ⟨_, rfl, by rw [h1, Dts.strs t]⟩
section
variable {K : PySem.W.Frag} {P : Program} {w : World} {base : Heap} {mg : Str → Option Value}
/-- names: rules by number -/
def spClos : Sp := fun vs H Q _ => ∃ v ns, vs = [v] ∧ Dt H v (ruD ns) ∧ (∀ n ∈ ns, n ∈ R9) ∧ ns.length ≤ 9 ∧ ∀ v H', Same H H' → Dt H' v (ruD (clos ns)) → Q v H'
abbrev s__law_closure : Stmt := topS 18
theorem sc__law_closure : FnScope ["names", "kinds", "kind", "rules", "rule", "name"] ["names"] (defScope s__law_closure) := ⟨rfl, rfl, rfl, by decide +kernel, rfl, by decide +kernel, by decide +kernel⟩
theorem ok_closure {f : Addr} {fd : FuncData} (F : Fun K "_law_closure" "_law_closure" s__law_closure f fd) (D_law_nine : Dn P w K mg base 1 "_law_nine" [] spNine) (D_law_thirteen : Dn P w K mg base 2 "_law_thirteen" [] spThir) : FnOk P w K mg base CX0 3 f fd ["names"] spClos := by
  refine F.ok sc__law_closure (fun vs H Q E h => ?_) (fun cdv A outer s H vs Q E hr h => ?_)
  · obtain ⟨v, ns, rfl, _⟩ := h
    rfl
  · obtain ⟨v, ns, rfl, hv, hns, hlen, q⟩ := h
    have hu64 := hr.units
    refine ⟨_, (pss_cons (ps_set (i := 1) sc__law_closure.nd rfl (.inr rfl) (pe_lc (own := [("kind", 2), ("rules", 3)]) rfl sc__law_closure.nd (pi_listK K (pd0 D_law_thirteen (hr.mono (by decide)) (by rfl))) (blkOk_by (by kernel_rfl)) (fun _ _ _ _ _ => (pg_tupK K (pg_tup (n := 2) rfl (pgs_cons (pg_name (i := 2) sc__law_closure.nd rfl (.inl rfl)) (pgs_cons (pg_name (i := 3) sc__law_closure.nd rfl (.inr rfl)) pgs_nil))))) (fun _ _ _ _ _ => pts_one (pt_cmpR (op_eqDK K hu64) (pe_lc (own := [("name", 5)]) rfl sc__law_closure.nd (pi_listK K (pv 0)) (blkOk_by (by kernel_rfl)) (fun _ _ _ _ _ => (pg_name (i := 5) sc__law_closure.nd rfl (.inl rfl))) (fun _ _ _ _ _ => pts_one (pt_cmpR (op_notInK K) (pv 5) (pv 3) rfl)) (fun _ _ _ _ _ => (pv 5))) (pe_lst pa_nil) (nomark _))) (fun _ _ _ _ _ => (pv 3))))
    (pss_one (ps_ret (pe_lc (own := [("rule", 4)]) rfl sc__law_closure.nd (pi_listK K (pd0 D_law_nine (hr.mono (by decide)) (by rfl))) (blkOk_by (by kernel_rfl)) (fun _ _ _ _ _ => (pg_name (i := 4) sc__law_closure.nd rfl (.inr rfl))) (fun _ _ _ _ _ => pts_one (pt_cmpR (op_eqDK K hu64) (pe_lc (own := [("rules", 3)]) rfl sc__law_closure.nd (pi_listK K (pv 1)) (blkOk_by (by kernel_rfl)) (fun _ _ _ _ _ => (pg_name (i := 3) sc__law_closure.nd rfl (.inl rfl))) (fun _ _ _ _ _ => pts_one (pt_cmpR (op_notInK K) (pv 4) (pv 3) rfl)) (fun _ _ _ _ _ => (pv 3))) (pe_lst pa_nil) (nomark _))) (fun _ _ _ _ _ => (pv 4)))))), ?_⟩
    obtain ⟨av, rfl, hav⟩ := hv.rules
    show tSeq _ _ _ [some (.ref av), none, none, none, none, none] H
    refine seqi fun k hk => ?_
    walk_at "rd"
    refine ⟨rfl, fun v1 H1 e1 h1 => ?_⟩
    obtain ⟨a1, xs1, rfl, ha1, ht1⟩ := h1.list
    refine ⟨_, rfl, ⟨_, .inl (.inl ha1)⟩, lcg_old (jseq_list K _ _) (.inl (.inl ha1)) K13 kiD ht1 (by decide) (fun k => hasB k ns) (fun k => ruD (KR k)) (fun x kd hkd hx H2 e2 R1 R0 r1 r0 => ?_) (fun D2 H2 hD2 e2 hD => ?_)⟩
    · obtain ⟨xa, y1, y2, rfl, hxa, hy1, hy2⟩ := hx.pair
      obtain ⟨ya, rfl, hya⟩ := hy2.rules
      walk_at "rd"
      refine ⟨_, .inl (.inl (e2 _ _ hxa)), rfl, _, _, rfl, _, _, rfl, rfl, ⟨_, .inl (.inl ((e1.trans e2) _ _ hav))⟩, ?_⟩
      refine lcg_old (jseq_list K _ _) (.inl (.inl ((e1.trans e2) _ _ hav))) ns (fun n => .str (rn n)) (dts_rS ns) (by omega) (fun n => !decide (n ∈ KR kd)) (fun n => .str (rn n)) (fun z n hn hz H3 e3 S1 S0 s1 s0 => ?_) (fun D3 H3 hD3 e3 hD3d => ?_)
      · obtain rfl := hz.txt
        walk_at "rd"
        refine ⟨_, .inl (.inl (.inl ((e2.trans e3) _ _ hya))), rfl, flat_strs _, ?_⟩
        rw [inV_strs, decide_eq_decide.mpr (iff_of_eq (mem_rS (hns n hn) (KR_in kd hkd)))]
        exact ite2 (fun hb => s1 hb _ _ (Same.refl _) (.str _)) (fun hb => s0 (Bool.eq_false_iff.mpr hb) _ (Same.refl _))
      · refine ⟨Nat.zero_le _, fun p hp => ?_⟩
        refine eq_nilD (hD3d.same (same_new hp)) ((shp_ru (l := ns.filter fun n => !decide (n ∈ KR kd)) fun j hj => hns j (List.mem_filter.mp hj).1).ok (by decide)) upd_same ⟨_, rfl, ?_⟩
        rw [map_empty, filter_empty]
        exact ite2 (fun hb => r1 hb _ _ (e3.trans (same_new hp)) hy2) (fun hb => r0 (Bool.eq_false_iff.mpr hb) _ (e3.trans (same_new hp)))
    · subst hk
      walk_at "rd"
      refine ⟨rfl, fun v3 H3 e3 h3 => ?_⟩
      obtain ⟨a3, rfl, ha3⟩ := h3.rules
      obtain ⟨a3', xs3, e, ha3', ht3⟩ := h3.list
      cases e
      refine ⟨_, rfl, ⟨_, .inl (.inl ha3')⟩, ?_⟩
      obtain ⟨dD, xsD, e, hdD, htD⟩ := (hD.same e3).list
      cases e
      refine lcg_old (jseq_list K _ _) (.inl (.inl ha3')) R9 (fun n => .str (rn n)) ht3 (by decide) (fun r => ((K13.filter fun k => hasB k ns).filter fun k => !decide (r ∈ KR k)).isEmpty) (fun n => .str (rn n)) (fun z n hn hz H4 e4 S1 S0 s1 s0 => ?_) (fun D4 H4 hD4 e4 hD4d => ?_)
      · obtain rfl := hz.txt
        walk_at "rd"
        refine ⟨⟨_, .inl (.inl (e4 _ _ hdD))⟩, ?_⟩
        refine lcg_old (jseq_list K _ _) (.inl (.inl (e4 _ _ hdD))) (K13.filter fun k => hasB k ns) (fun k => ruD (KR k)) (htD.same e4) (Nat.lt_of_le_of_lt (List.length_filter_le _ _) (by decide)) (fun k => !decide (n ∈ KR k)) (fun k => ruD (KR k)) (fun z k hk hz H5 e5 T1 T0 t1 t0 => ?_) (fun D5 H5 hD5 e5 hD5d => ?_)
        · obtain ⟨az, rfl, haz⟩ := hz.rules
          walk_at "rd"
          refine ⟨_, .inl (.inl (.inl (e5 _ _ haz))), rfl, flat_strs _, ?_⟩
          rw [inV_strs, decide_eq_decide.mpr (iff_of_eq (mem_rS hn (KR_in k (List.mem_filter.mp hk).1)))]
          exact ite2 (fun hb => t1 hb _ _ (Same.refl _) hz) (fun hb => t0 (Bool.eq_false_iff.mpr hb) _ (Same.refl _))
        · refine ⟨Nat.zero_le _, fun p hp => ?_⟩
          refine eq_nilD (hD5d.same (same_new hp)) ((shp_lst (n := 1) fun d hd => ?_).ok (by decide)) upd_same ⟨_, rfl, ?_⟩
          · obtain ⟨i, hi, rfl⟩ := List.mem_map.mp hd
            exact shp_ru (KR_in i (List.mem_filter.mp (List.mem_filter.mp hi).1).1)
          · rw [map_empty]
            exact ite2 (fun hb => s1 hb _ _ (e5.trans (same_new hp)) (.str _)) (fun hb => s0 (Bool.eq_false_iff.mpr hb) _ (e5.trans (same_new hp)))
      · exact q _ _ (((e1.trans e2).trans e3).trans e4) hD4d
end
end Fp

namespace Fp
open PySem PySem.Spec PyProof.Rows L2
local macro_rules | `(tactic| walk_at "rd") => `(tactic| simp only [cxK, cxKn, tRet, tRetN, rIntI, rIntB, rLenL, rListL, rListT, rAbs, tDisp, tPairs, tC, tCB, tCons, tNil, tSl, tVar, tNoPart, tPart, rSlL, tOp, tAsg, gName, tIfS, tDrop, tTest, tAnd, tOr, Evl.tCut, tNot, tB, rI0, rI, rIxL, rIxT, rIxD, tDGet, sDPut, tLst, tTup, tBM, tBM0, tPar, rAppend, rPopAt, rPop, rExtend, rTupL, tCall, tNext, lc_iL, lc_iT, lc_iK, lc_iR, fr_iL, fr_iT, fr_iR, tYes, rIn, rEq, rNe, gTup, gCons, gNil, wipe, tMeth, tFld, sFld, tMake, tProp, tIf, tAndV, tOrV, tNotV, if_true, if_false, Bool.false_eq_true, List.map_cons, List.map_nil, List.nil_append, List.append_nil, List.cons_append, List.getElem?_cons_zero, List.getElem?_cons_succ, Option.some.injEq, exists_and_left, exists_eq_left', exists_eq_left, List.cons.injEq, and_true, true_and, V.ref.injEq, V.int.injEq, V.str.injEq, V.bl.injEq, List.set_cons_zero, List.set_cons_succ])
theorem perm_erase {α : Type} : ∀ (l : List α) (i : Nat) (x : α), l[i]? = some x → (x :: l.eraseIdx i).Perm l
  | [], _, _, h => by simp at h
  | y :: r, 0, x, h => by
    cases h
    exact List.Perm.refl _
  | y :: r, i + 1, x, h => by
    have ih := perm_erase r i x h
    exact (List.Perm.swap y x _).trans (ih.cons y)
section
variable {K : PySem.W.Frag} {P : Program} {w : World} {base : Heap} {mg : Str → Option Value}
def spShuf : Sp := fun vs H Q _ => ∃ p c v t ds n, vs = [.ref p, v] ∧ PenOk H p c t ∧ Dt H v (.list ds) ∧ (∀ d ∈ ds, Shp n d) ∧ n ≤ 60 ∧ ds.length ≤ 900 ∧ t ≤ 900000000 ∧
  ∀ a H' es, es.Perm ds → PenOk H' p c (t + ds.length) → But p H H' → Dt H' (.ref a) (.list es) → Q (.ref a) H'
abbrev s__law_shuffled : Stmt := topS 15
theorem sc__law_shuffled : FnScope ["pen", "items", "left", "found"] ["pen", "items"] (defScope s__law_shuffled) := ⟨rfl, rfl, rfl, by decide +kernel, rfl, by decide +kernel, by decide +kernel⟩
theorem ok_shuffled {f : Addr} {fd : FuncData} (F : Fun K "_law_shuffled" "_law_shuffled" s__law_shuffled f fd) (D_law_draw : Dn P w K mg base 1 "_law_draw" ["pen", "span"] spDraw) (m_len : mg "len" = none) (m_list : mg "list" = none) : FnOk P w K mg base CX0 2 f fd ["pen", "items"] spShuf := by
  refine F.ok sc__law_shuffled (fun vs H Q E h => ?_) (fun cdv A outer s H vs Q E hr h => ?_)
  · obtain ⟨p, c, v, t, ds, n, rfl, _⟩ := h
    rfl
  · obtain ⟨p, c, v, t, ds, n, rfl, hP, hv, hsh, hn, hl, ht, q⟩ := h
    have hu64 := hr.units
    refine ⟨_, (pss_cons (ps_par (i := 2) (j := 3) rfl sc__law_shuffled.nd rfl rfl (by decide) rfl rfl (pa_cons (pe_callTy (call_listK K) (by rfl) m_list (by decide +kernel) (pa_cons (pv 1) pa_nil)) (pa_cons (pe_lst pa_nil) pa_nil)) rfl)
    (pss_cons (ps_while PassesOwn.never (pt_cmpR (op_neDK K hu64) (pv 2) (pe_lst pa_nil) (nomark _))
      (pss_one (ps_expr (pe_bmK K (by rfl) (pe_bm PySem.F.plainAttrs_list PySem.F.slot_list_append PySem.F.type_list_append mt_append (pv 3) (pa_cons (pe_bmK K (by rfl) (pe_bm PySem.F.plainAttrs_list PySem.F.slot_list_pop PySem.F.type_list_pop mt_popAt (pv 2) (pa_cons (pd D_law_draw (hr.mono (by decide)) (by rfl) (pa_cons (pv 0) (pa_cons (pe_callB (call_lenK K) (by rfl) m_len PySem.boot_len (pa_cons (pv 2) pa_nil)) pa_nil))) pa_nil))) pa_nil))))))
    (pss_one (ps_ret (pv 3))))), ?_⟩
    show tSeq _ _ _ [some (.ref p), some v, none, none] H
    obtain ⟨av, xs, rfl, hav, hxs⟩ := hv.list
    obtain ⟨kvs, hpk⟩ := hP.dict
    refine seqi fun k hk => ?_
    walk_at "rd"
    refine ⟨_, .inl (.inl hav), fun l hl0 => ⟨Nat.zero_le _, fun f1 hf0 => ⟨_, _, ⟨rfl, rfl⟩, ?_⟩⟩⟩
    subst hk
    have hf : H f1 = none := (same_new hl0).free hf0
    have nlf : l ≠ f1 := ne_of_none upd_same hf0
    have npl : l ≠ p := (ne_of_none hpk hl0).symm
    obtain ⟨cxs, hcx⟩ := hP.cells
    have nlc : l ≠ c := (ne_of_none hcx hl0).symm
    have nfc : f1 ≠ c := (ne_of_none hcx hf).symm
    have npf : f1 ≠ p := (ne_of_none hpk hf).symm
    have lx := hxs.len
    refine seqi fun k hk => ?_
    refine ⟨fun m σ H' => ∃ (L F : List V) (dl df : List PyData), σ = [some (.ref p), some (.ref av), some (.ref l), some (.ref f1)] ∧ m = L.length ∧ H' l = some (.lst L) ∧ H' f1 = some (.lst F) ∧ Dts H L dl ∧ Dts H F df ∧ (df ++ dl).Perm ds ∧ PenOk H' p c (t + df.length) ∧ But p H H',
      ⟨xs.length, xs, [], ds, [], rfl, rfl, ?_, ?_, hxs, .nil, List.Perm.refl _, ?_, ?_⟩, ?_⟩
    · rw [upd_ne nlf, upd_same]
    · rw [upd_same]
    · exact hP.same (Same.new (same_new hl0) hf0)
    · exact But.of (Same.new (same_new hl0) hf0)
    · rintro m σ H1 ⟨L, F, dl, df, rfl, rfl, h1, h2, d1, d2, pm, hP1, b1⟩
      have lens : df.length + dl.length = ds.length := by rw [← List.length_append]; exact pm.length_eq
      have ll := d1.len
      walk_at "rd"
      refine ⟨Nat.zero_le _, fun q1 hq1 => ?_⟩
      have hdl : ∀ d ∈ dl, Shp n d := fun d hd => hsh d (pm.mem_iff.mp (List.mem_append_right _ hd))
      have s2 : Same H1 (upd H1 q1 (.lst [])) := same_new hq1
      refine ne_nilD (ds := dl) (.lst (s2 _ _ h1) (((d1.but hpk b1)).same s2)) ((shp_lst hdl).ok (by omega)) upd_same ⟨_, rfl, ?_⟩
      cases dl with
      | nil =>
        have e0 : L = [] := List.length_eq_zero_iff.mp ll
        subst e0
        show k _ _
        subst hk
        walk_at "rd"
        rw [List.append_nil] at pm
        have e2 : df.length = ds.length := pm.length_eq
        rw [e2] at hP1
        exact q f1 _ df pm (hP1.same s2) (b1.trans (But.of s2)) (.lst (s2 _ _ h2) ((d2.but hpk b1).same s2))
      | cons d0 dr =>
        show ∃ N, _
        refine ⟨fun σ2 H2 => ∃ (L' F' : List V) (dl' df' : List PyData), σ2 = [some (.ref p), some (.ref av), some (.ref l), some (.ref f1)] ∧ L'.length + 1 = L.length ∧ H2 l = some (.lst L') ∧ H2 f1 = some (.lst F') ∧
          Dts H L' dl' ∧ Dts H F' df' ∧ (df' ++ dl').Perm ds ∧ PenOk H2 p c (t + df'.length) ∧ But p H H2, ?_, .inl ⟨rfl, _, .inl (.inl (s2 _ _ h2))⟩, .inl ⟨rfl, _, .inl (.inl (s2 _ _ h1))⟩, L, .inl (.inl (s2 _ _ h1)), ?_⟩
        · rintro σ2 H2 ⟨L', F', dl', df', e1, e2, e3, e4, e5, e6, e7, e8, e9⟩
          exact ⟨L'.length, by omega, e1, L', rfl, e3, F', e4, dl', e5, df', e6, e7, e8, e9⟩
        · have lpos : 0 < L.length := by rw [ll]; exact Nat.succ_pos _
          have ls : L.length ≤ 900 := by omega
          refine ⟨p, c, _, t + df.length, rfl, hP1.same s2, by omega, by omega, lg_small (by omega), fun r H2 r0 r1 P2 b2 => ?_⟩
          have h1' : H2 l = some (.lst L) := b2.1 _ _ (s2 _ _ h1) npl
          have h2' : H2 f1 = some (.lst F) := b2.1 _ _ (s2 _ _ h2) npf
          obtain ⟨j, rfl⟩ : ∃ j : Nat, r = j := ⟨r.toNat, by omega⟩
          have hj : j < L.length := by omega
          have hix : seqIndex? (j : Int) L.length = some j := by
            unfold seqIndex?
            have h1 : ¬ ((j : Int) < 0) := by omega
            simp only [if_neg h1]
            rw [if_pos (by simp; omega)]
            rfl
          refine ⟨L, _, rfl, h1', by omega, by omega, j, hix, _, List.getElem?_eq_getElem hj, F, ?_, ?_, ?_⟩
          · rw [upd_ne nlf.symm]
            exact h2'
          · rw [d2.len]
            exact small1000 (by omega)
          · have hdj : j < (d0 :: dr).length := by rw [← ll]; exact hj
            obtain ⟨v', hv', hdv⟩ := d1.get (i := j) (List.getElem?_eq_getElem hdj)
            rw [List.getElem?_eq_getElem hj] at hv'
            cases hv'
            refine ⟨L.eraseIdx j, F ++ [L[j]], (d0 :: dr).eraseIdx j, df ++ [(d0 :: dr)[j]], rfl, ?_, ?_, upd_same, d1.erase j, d2.app (.cons hdv .nil), ?_, ?_, ?_⟩
            · rw [List.length_eraseIdx_of_lt hj]
              omega
            · rw [upd_ne nlf, upd_same]
            · rw [List.append_assoc]
              exact ((perm_erase (d0 :: dr) j _ (List.getElem?_eq_getElem hdj)).append_left df).trans pm
            · rw [List.length_append, List.length_singleton, ← Nat.add_assoc]
              exact (P2.mut npl nlc).mut npf nfc
            · exact ((b1.trans (But.of s2)).trans b2).mut hl0 |>.mut hf
end
/-! ### the mathematics of closing -/
def sub (b : Nat) : List Nat := R9.filter fun i => b.testBit i
def weak (ns : List Nat) : Nat := (K13.filter fun k => hasB k ns).headD 0
def allOk (b : Nat) : Bool :=
  decide (KR (weak (sub b)) = clos (sub b)) && decide ((K13.filter fun k => decide (KR k = clos (sub b))) = [weak (sub b)])
theorem all_ok : (List.range 512).all allOk = true := by decide +kernel
theorem sub_ok {b : Nat} (h : b < 512) : KR (weak (sub b)) = clos (sub b) ∧ (K13.filter fun k => decide (KR k = clos (sub b))) = [weak (sub b)] := by
  have h1 := List.all_eq_true.mp all_ok b (List.mem_range.mpr h)
  unfold allOk at h1
  rw [Bool.and_eq_true, decide_eq_true_eq, decide_eq_true_eq] at h1
  exact h1
theorem sub_in {b i : Nat} (h : i ∈ sub b) : i ∈ R9 := (List.mem_filter.mp h).1
theorem sub_len (b : Nat) : (sub b).length ≤ 9 := List.length_filter_le _ _
theorem clos_in {ns : List Nat} {i : Nat} (h : i ∈ clos ns) : i ∈ R9 := (List.mem_filter.mp h).1
theorem has_one {ns : List Nat} (h : ∀ n ∈ ns, n ∈ R9) : hasB 12 ns = true := List.all_eq_true.mpr fun n hn => decide_eq_true (h n hn)
theorem weak_head {ns : List Nat} (h : ∀ n ∈ ns, n ∈ R9) : (K13.filter fun k => hasB k ns)[0]? = some (weak ns) ∧ weak ns ∈ K13 := by
  have hm : 12 ∈ K13.filter fun k => hasB k ns := List.mem_filter.mpr ⟨by decide, has_one h⟩
  unfold weak
  cases e : (K13.filter fun k => hasB k ns) with
  | nil => rw [e] at hm; cases hm
  | cons k r => exact ⟨rfl, (List.mem_filter.mp (show k ∈ K13.filter fun k => hasB k ns by rw [e]; exact List.mem_cons_self)).1⟩
theorem kinds_ok : K13.all (fun k => decide (weak (KR k) = k)) = true := by decide +kernel
theorem weak_KR {k : Nat} (h : k ∈ K13) : weak (KR k) = k := of_decide_eq_true (List.all_eq_true.mp kinds_ok k h)
theorem KR_sorted : K13.all (fun k => decide (R9.filter (fun i => decide (i ∈ KR k)) = KR k)) = true := by decide +kernel
theorem KR_filter {k : Nat} (h : k ∈ K13) : R9.filter (fun i => decide (i ∈ KR k)) = KR k := of_decide_eq_true (List.all_eq_true.mp KR_sorted k h)
theorem sub_filter (b : Nat) : R9.filter (fun i => decide (i ∈ sub b)) = sub b := by
  unfold sub
  refine List.filter_congr fun i hi => ?_
  cases h : b.testBit i with
  | true => exact decide_eq_true (List.mem_filter.mpr ⟨hi, h⟩)
  | false => exact decide_eq_false fun z => absurd (List.mem_filter.mp z).2 (by rw [h]; decide)
theorem kn_rn : K13.all (fun k => R9.all fun i => !decide (kn k = rn i)) = true := by decide +kernel
theorem eqv_strs : ∀ a b : List Str, PyData.eqvAll (a.map PyData.str) (b.map PyData.str) = decide (a = b)
  | [], [] => rfl
  | [], _ :: _ => rfl
  | _ :: _, [] => rfl
  | x :: a, y :: b => by
    show ((x == y) && PyData.eqvAll (a.map PyData.str) (b.map PyData.str)) = _
    rw [eqv_strs a b]
    by_cases h : x = y
    · subst h
      simp
    · simp [h]
theorem rS_inj : ∀ {a b : List Nat}, (∀ n ∈ a, n ∈ R9) → (∀ n ∈ b, n ∈ R9) → (rS a = rS b) = (a = b)
  | [], [], _, _ => by simp
  | [], _ :: _, _, _ => by simp [rS]
  | _ :: _, [], _, _ => by simp [rS]
  | x :: a, y :: b, ha, hb => by
    have ih := rS_inj (a := a) (b := b) (fun n hn => ha n (List.mem_cons_of_mem _ hn)) (fun n hn => hb n (List.mem_cons_of_mem _ hn))
    have hx := ha x List.mem_cons_self
    have hy := hb y List.mem_cons_self
    have e1 : (rn x = rn y) = (x = y) := propext ⟨fun e => rn_inj x hx y hy e, fun e => by rw [e]⟩
    show (rn x :: rS a = rn y :: rS b) = _
    simp only [List.cons.injEq]
    rw [e1, ih]
theorem eqv_ru {a b : List Nat} (ha : ∀ n ∈ a, n ∈ R9) (hb : ∀ n ∈ b, n ∈ R9) : PyData.eqv (ruD a) (ruD b) = decide (a = b) := by
  rw [ruD_eq, ruD_eq]
  show PyData.eqvAll _ _ = _
  rw [eqv_strs, decide_eq_decide.mpr (iff_of_eq (rS_inj ha hb))]
end Fp

namespace Fp
open PySem PySem.Spec PyProof.Rows L2
local macro_rules | `(tactic| walk_at "rd") => `(tactic| simp only [cxK, cxKn, tRet, tRetN, rIntI, rIntB, rLenL, rListL, rListT, rAbs, tDisp, tPairs, tC, tCB, tCons, tNil, tSl, tVar, tNoPart, tPart, rSlL, tOp, tAsg, gName, tIfS, tDrop, tTest, tAnd, tOr, Evl.tCut, tNot, tB, rI0, rI, rIxL, rIxT, rIxD, tDGet, sDPut, tLst, tTup, tBM, tBM0, tPar, rAppend, rPopAt, rPop, rExtend, rTupL, tCall, tNext, rAll, lc_iL, lc_iT, lc_iK, lc_iR, fr_iL, fr_iT, fr_iR, tYes, rIn, rEq, rNe, gTup, gCons, gNil, wipe, tMeth, tFld, sFld, tMake, tProp, tIf, tAndV, tOrV, tNotV, if_true, if_false, Bool.false_eq_true, List.map_cons, List.map_nil, List.nil_append, List.append_nil, List.cons_append, List.getElem?_cons_zero, List.getElem?_cons_succ, Option.some.injEq, exists_and_left, exists_eq_left', exists_eq_left, List.cons.injEq, and_true, true_and, V.ref.injEq, V.int.injEq, V.str.injEq, V.bl.injEq, List.set_cons_zero, List.set_cons_succ])
/-! ### what the top has written of rules -/
def kS : List Str := K13.map kn
structure TxR (K : PySem.W.Frag) (w : World) (mg : Str → Option Value) (aR aD C : Addr) (T : Nat → Addr) : Prop where
  mR : mg "_RULES" = some (.ref aR)
  mD : mg "_RULES_OF" = some (.ref aD)
  mC : mg "Rules" = some (.ref C)
  sR : ∀ H, SqT K H aR ((rS R9).map V.str)
  kk : KKeys K aD kS
  dD : ∃ es n, KDict K w aD es n
  dI : ∀ k ∈ K13, KDct K w aD (kn k) (.ref (T k))
  sT : ∀ k ∈ K13, ∀ H, SqT K H (T k) ((rS (KR k)).map V.str)
  cl : Cls K C
  nN : NoAttr K C "_names"
  nK : NoAttr K C "_kind"
  m_list : mg "list" = none
  m_all : mg "all" = none
  m_tuple : mg "tuple" = none
  m_isi : mg "isinstance" = none
section
variable {K : PySem.W.Frag} {P : Program} {w : World} {base : Heap} {mg : Str → Option Value} {aR aD C : Addr} {T : Nat → Addr}
def spRulesOf : Sp := fun vs H Q _ => ∃ k ∈ K13, vs = [.str (kn k)] ∧ ∀ v H', Same H H' → Dt H' v (ruD (KR k)) → Q v H'
def spHas (K : PySem.W.Frag) : Sp := fun vs H Q _ => ∃ a b k ns, vs = [.ref a, .ref b] ∧ k ∈ K13 ∧ (∀ n ∈ ns, n ∈ R9) ∧ ns.length ≤ 9 ∧ SqT K H a ((rS (KR k)).map V.str) ∧ SqT K H b ((rS ns).map V.str) ∧
  ∀ H', Same H H' → Q (.bl (hasB k ns)) H'
def spWeak (K : PySem.W.Frag) : Sp := fun vs H Q _ => ∃ b ns, vs = [.ref b] ∧ (∀ n ∈ ns, n ∈ R9) ∧ ns.length ≤ 9 ∧ SqT K H b ((rS ns).map V.str) ∧ ∀ H', Same H H' → Q (.str (kn (weak ns))) H'
theorem dts_bools {H : Hp} : ∀ {bs : List Bool} {vs : List V}, Dts H vs (bs.map PyData.bool) → vs = bs.map V.bl
  | [], _, .nil => rfl
  | z :: r, _, .cons (.bl _) t => by rw [dts_bools t]; rfl
abbrev s_rules_of : Stmt := topS 8
theorem sc_rules_of : FnScope ["kind"] ["kind"] (defScope s_rules_of) := ⟨rfl, rfl, rfl, by decide +kernel, rfl, by decide +kernel, by decide +kernel⟩
theorem ok_rules_of {f : Addr} {fd : FuncData} (F : Fun K "rules_of" "rules_of" s_rules_of f fd) (X : TxR K w mg aR aD C T) : FnOk P w K mg base CX0 1 f fd ["kind"] spRulesOf := by
  refine F.ok sc_rules_of (fun vs H Q E h => ?_) (fun cdv A outer s H vs Q E hr h => ?_)
  · obtain ⟨k, hk, rfl, _⟩ := h
    rfl
  · obtain ⟨k, hk, rfl, q⟩ := h
    obtain ⟨es, n, D⟩ := X.dD
    have m__RULES_OF := X.mD
    have m_list := X.m_list
    refine ⟨_, (pss_cons (ps_if (pt_cmpR (op_notIn_kd D) (pv 0) (pe_glob rfl m__RULES_OF (v := .ref aD) rfl) rfl)
      (pss_one ps_never)
      pss_nil)
    (pss_one (ps_ret (pe_callTy (call_listTK K) (by rfl) m_list (by decide +kernel) (pa_cons (pe_ix (ix_kdK K w) (pe_glob rfl m__RULES_OF (v := .ref aD) rfl) (pv 0) (fun _ _ => rfl)) pa_nil))))), ?_⟩
    show tSeq _ _ _ [some (.str (kn k))] H
    obtain ⟨es', n', u, g1, g2, g3, g4⟩ := X.dI k hk
    refine seqi fun k0 hk0 => ?_
    walk_at "rd"
    refine ⟨some u, g3, iteF ?_⟩
    subst hk0
    walk_at "rd"
    refine ⟨_, X.dI k hk, _, rfl, _, X.sT k hk H, fun l hl => ?_⟩
    refine q _ _ (same_new hl) ?_
    rw [ruD_eq]
    exact .lst upd_same (dts_strs _)
abbrev s__has_all : Stmt := topS 9
theorem sc__has_all : FnScope ["rules", "names", "name"] ["rules", "names"] (defScope s__has_all) := ⟨rfl, rfl, rfl, by decide +kernel, rfl, by decide +kernel, by decide +kernel⟩
theorem ok_has_all {f : Addr} {fd : FuncData} (F : Fun K "_has_all" "_has_all" s__has_all f fd) (X : TxR K w mg aR aD C T) : FnOk P w K mg base CX0 1 f fd ["rules", "names"] (spHas K) := by
  refine F.ok sc__has_all (fun vs H Q E h => ?_) (fun cdv A outer s H vs Q E hr h => ?_)
  · obtain ⟨a, b, k, ns, rfl, _⟩ := h
    rfl
  · obtain ⟨a, b, k, ns, rfl, hk, hns, hl, ha, hb, q⟩ := h
    have m_all := X.m_all
    refine ⟨_, (pss_one (ps_ret (pe_callB (call_allK K rfl) (by rfl) m_all (by decide +kernel) (pa_cons (pe_lc (own := [("name", 2)]) rfl sc__has_all.nd (pi_tupK K (pv 1)) (blkOk_by (by kernel_rfl)) (fun _ _ _ _ _ => (pg_name (i := 2) sc__has_all.nd rfl (.inl rfl))) (fun _ _ _ _ _ => pts_nil) (fun _ _ _ _ _ => (pe_cmpR (op_inK K) (pv 2) (pv 0) rfl))) pa_nil)))), ?_⟩
    show tRet _ _ [some (.ref a), some (.ref b), none] H
    walk_at "rd"
    refine ⟨⟨_, hb⟩, ?_⟩
    refine lcg_old (jseq_tup K _ _) hb ns (fun n => .str (rn n)) (dts_rS ns) (by omega) (fun _ => true) (fun n => .bool (decide (n ∈ KR k))) (fun z n hn hz H3 e3 S1 S0 s1 s0 => ?_) (fun D3 H3 hD3 e3 hD3d => ?_)
    · obtain rfl := hz.txt
      walk_at "rd"
      refine ⟨_, .inr (same_tup e3 ha), rfl, flat_strs _, ?_⟩
      rw [inV_strs, decide_eq_decide.mpr (iff_of_eq (mem_rS (hns n hn) (KR_in k hk)))]
      exact s1 rfl _ _ (Same.refl _) (.bl _)
    · obtain ⟨a3, xs3, e, ha3, hx3⟩ := hD3d.list
      cases e
      have e4 : ((ns.filter fun _ => true).map fun n => PyData.bool (decide (n ∈ KR k))) = (ns.map fun n => decide (n ∈ KR k)).map PyData.bool := by
        rw [List.filter_eq_self.mpr (fun _ _ => rfl), List.map_map]
        rfl
      rw [e4] at hx3
      refine ⟨_, rfl, _, .inl (.inl (by rw [ha3, dts_bools hx3])), ?_⟩
      rw [List.all_map]
      exact q _ e3
abbrev s__weakest_kind : Stmt := topS 10
theorem sc__weakest_kind : FnScope ["names", "fitting", "kind"] ["names"] (defScope s__weakest_kind) := ⟨rfl, rfl, rfl, by decide +kernel, rfl, by decide +kernel, by decide +kernel⟩
theorem ok_weakest {f : Addr} {fd : FuncData} (F : Fun K "_weakest_kind" "_weakest_kind" s__weakest_kind f fd) (X : TxR K w mg aR aD C T) (D_has_all : Dn P w K mg base 1 "_has_all" ["rules", "names"] (spHas K)) : FnOk P w K mg base CX0 2 f fd ["names"] (spWeak K) := by
  refine F.ok sc__weakest_kind (fun vs H Q E h => ?_) (fun cdv A outer s H vs Q E hr h => ?_)
  · obtain ⟨b, ns, rfl, _⟩ := h
    rfl
  · obtain ⟨b, ns, rfl, hns, hl, hb, q⟩ := h
    have m__RULES_OF := X.mD
    refine ⟨_, (pss_cons (ps_setLc (i := 1) (own := [("kind", 2)]) rfl sc__weakest_kind.nd rfl rfl (sw_true rfl rfl rfl (by decide +kernel)) (pi_kkK K (pe_glob rfl m__RULES_OF (v := .ref aD) rfl)) (blkOk_by (by kernel_rfl)) (fun _ _ _ _ _ => (pg_name (i := 2) sc__weakest_kind.nd rfl (.inl rfl))) (fun _ _ _ _ _ => pts_one (pt_val (pd D_has_all (hr.mono (by decide)) (by rfl) (pa_cons (pe_ix (ix_kdK K w) (pe_glob rfl m__RULES_OF (v := .ref aD) rfl) (pv 2) (fun _ _ => rfl)) (pa_cons (pv 0) pa_nil))))) (fun _ _ _ _ _ => (pv 2)))
    (pss_one (ps_ret (pe_ix (ix_listK K) (pv 1) pe_int (fun _ _ => rfl))))), ?_⟩
    show tSeq _ _ _ [some (.ref b), none, none] H
    refine seqi fun k0 hk0 => ?_
    walk_at "rd"
    refine ⟨_, X.kk, ?_⟩
    have ek : kS.map V.str = (K13.map fun k => V.str (kn k)) := rfl
    have dk : Dts H (kS.map V.str) (K13.map fun k => PyData.str (kn k)) := dts_strs kS
    refine lcg_old (jseq_kk kS) trivial K13 (fun k => .str (kn k)) dk (by decide) (fun k => hasB k ns) (fun k => .str (kn k)) (fun z k hk hz H3 e3 S1 S0 s1 s0 => ?_) (fun D3 H3 hD3 e3 hD3d => ?_)
    · obtain rfl := hz.txt
      walk_at "rd"
      refine ⟨_, X.dI k hk, T k, b, k, ns, rfl, hk, hns, hl, X.sT k hk _, same_tup e3 hb, fun H4 e4 => ⟨_, rfl, ?_⟩⟩
      exact ite2 (fun h => s1 h _ _ e4 (.str _)) (fun h => s0 (Bool.eq_false_iff.mpr h) _ e4)
    · subst hk0
      walk_at "rd"
      obtain ⟨a3, xs3, e, ha3, hx3⟩ := hD3d.list
      cases e
      obtain ⟨v0, hv0, hd0⟩ := hx3.get (i := 0) (d := .str (kn (weak ns))) (by rw [List.getElem?_map, (weak_head hns).1]; rfl)
      obtain rfl := hd0.txt
      exact ⟨_, .inl (.inl ha3), _, atI_nat (j := 0) hv0, q _ e3⟩
end
end Fp

namespace Fp
open PySem PySem.Spec PyProof.Rows L2
local macro_rules | `(tactic| walk_at "rd") => `(tactic| simp only [cxK, cxKn, tRet, tRetN, rIntI, rIntB, rLenL, rListL, rListT, rAbs, tDisp, tPairs, tC, tCB, tCons, tNil, tSl, tVar, tNoPart, tPart, rSlL, tOp, tAsg, gName, tIfS, tDrop, tTest, tAnd, tOr, Evl.tCut, tNot, tB, rI0, rI, rIxL, rIxT, rIxD, tDGet, sDPut, tLst, tTup, tBM, tBM0, tPar, rAppend, rPopAt, rPop, rExtend, rTupL, tCall, tNext, rAll, lc_iL, lc_iT, lc_iK, lc_iR, fr_iL, fr_iT, fr_iR, tYes, rIn, rEq, rNe, gTup, gCons, gNil, wipe, tMeth, tFld, sFld, tMake, tProp, tIf, tAndV, tOrV, tNotV, if_true, if_false, Bool.false_eq_true, List.map_cons, List.map_nil, List.nil_append, List.append_nil, List.cons_append, List.getElem?_cons_zero, List.getElem?_cons_succ, Option.some.injEq, exists_and_left, exists_eq_left', exists_eq_left, List.cons.injEq, and_true, true_and, V.ref.injEq, V.int.injEq, V.str.injEq, V.bl.injEq, List.set_cons_zero, List.set_cons_succ])
def rFl (t : Addr) (k : Str) : List (Str × V) := putF "_kind" (.str k) (putF "_names" (.ref t) [])
theorem s_nk : ¬ (("_names" : Str) = "_kind") := by decide +kernel
theorem rFl_names (t : Addr) (k : Str) : (rFl t k).lookup ("_names" : Str) = some (.ref t) := by
  unfold rFl
  rw [lookup_putF, if_neg s_nk, lookup_putF, if_pos rfl]
theorem rFl_kind (t : Addr) (k : Str) : (rFl t k).lookup ("_kind" : Str) = some (.str k) := by
  unfold rFl
  rw [lookup_putF, if_pos rfl]
theorem rFl_no (t : Addr) (k m : Str) (h1 : ¬ m = "_kind") (h2 : ¬ m = "_names") : (rFl t k).lookup m = none := by
  unfold rFl
  rw [lookup_putF, if_neg h1, lookup_putF, if_neg h2]
  rfl
/-- a set of rules stands at p -/
def RuAt (H : Hp) (C p : Addr) (s : List Nat) : Prop := ∃ dx t, H p = some (.ins C dx (rFl t (kn (weak s)))) ∧ H t = some (.tup ((rS s).map V.str))
theorem RuAt.same {H H' : Hp} {C p : Addr} {s : List Nat} (h : RuAt H C p s) (e : Same H H') : RuAt H' C p s := by
  obtain ⟨dx, t, h1, h2⟩ := h
  exact ⟨dx, t, e _ _ h1, e _ _ h2⟩
section
variable {K : PySem.W.Frag} {P : Program} {w : World} {base : Heap} {mg : Str → Option Value} {aR aD C : Addr} {T : Nat → Addr}
def spInit (C : Addr) : Sp := fun vs H Q _ => ∃ p dx v ns, vs = [.ref p, v] ∧ H p = some (.ins C dx []) ∧ Dt H v (ruD ns) ∧ (∀ n ∈ ns, n ∈ R9) ∧ ns.length ≤ 9 ∧
  ∀ H', (∀ b o, H b = some o → b ≠ p → H' b = some o) → RuAt H' C p (R9.filter fun i => decide (i ∈ ns)) → Q .non H'
abbrev s_Rules___init__ : Stmt := inClass (topS 11) 0
theorem sc_Rules___init__ : FnScope ["self", "names", "name", "rule"] ["self", "names"] (defScope s_Rules___init__) := ⟨rfl, rfl, rfl, by decide +kernel, rfl, by decide +kernel, by decide +kernel⟩
theorem ok_init {f : Addr} {fd : FuncData} {dvs : List V} (F : FunD K "__init__" "Rules.__init__" (defArgs s_Rules___init__) (defBody s_Rules___init__) (defScope s_Rules___init__) dvs [] f fd) (X : TxR K w mg aR aD C T)
    (D_weakest_kind : Dn P w K mg base 2 "_weakest_kind" ["names"] (spWeak K)) : FnOk P w K mg base CX0 3 f fd ["self", "names"] (spInit C) := by
  refine F.ok sc_Rules___init__ (fun vs H Q E h => ?_) (fun cdv A outer s H vs Q E hr h => ?_)
  · obtain ⟨p, dx, v, ns, rfl, _⟩ := h
    rfl
  · obtain ⟨p, dx, v, ns, rfl, hp, hv, hns, hl, q⟩ := h
    have m__RULES := X.mR
    have m_tuple := X.m_tuple
    refine ⟨_, PSs.nox (pss_cons (ps_for PassesOwn.never rfl (pi_listK K (pv 1)) (pg_name (i := 2) sc_Rules___init__.nd rfl (.inl rfl))
      (pss_one (ps_if (pt_cmpR (op_notInK K) (pv 2) (pe_glob rfl m__RULES (v := .ref aR) rfl) rfl)
      (pss_one ps_never)
      pss_nil)))
    (pss_cons (ps_fldK K (pv 0) (pe_callTy (call_tupleK K) (by rfl) m_tuple (by decide +kernel) (pa_cons (pe_lc (own := [("rule", 3)]) rfl sc_Rules___init__.nd (pi_tupK K (pe_glob rfl m__RULES (v := .ref aR) rfl)) (blkOk_by (by kernel_rfl)) (fun _ _ _ _ _ => (pg_name (i := 3) sc_Rules___init__.nd rfl (.inl rfl))) (fun _ _ _ _ _ => pts_one (pt_cmpR (op_inK K) (pv 3) (pv 1) rfl)) (fun _ _ _ _ _ => (pv 3))) pa_nil)) rfl)
    (pss_one (ps_fldK K (pv 0) (pd D_weakest_kind (hr.mono (by decide)) (by rfl) (pa_cons (pe_fldK K (pv 0) rfl) pa_nil)) rfl)))), ?_⟩
    show tSeq _ _ _ [some (.ref p), some v, none, none] H
    obtain ⟨av, rfl, hav⟩ := hv.rules
    have npa : p ≠ av := ne_of hp hav (by intro z; cases z)
    refine seqi fun k0 hk0 => ?_
    walk_at "rd"
    refine ⟨⟨_, .inl (.inl hav)⟩, ?_⟩
    refine forg_by (jseq_list K _ _) (fun i σ' H' => ∃ y, σ' = [some (.ref p), some (.ref av), y, none] ∧ H' = H) ⟨none, rfl, rfl⟩ (fun i σ' H' _ h => by obtain ⟨y, _, rfl⟩ := h; exact .inl (.inl hav)) (fun i x σ' H' hx h => ?_) (fun σ' H' h => ?_)
    · obtain ⟨y, rfl, rfl⟩ := h
      obtain ⟨z, hz, rfl⟩ : ∃ n, n ∈ ns ∧ x = .str (rn n) := by
        have := List.mem_of_getElem? hx
        rw [List.mem_map] at this
        obtain ⟨z, hz, rfl⟩ := this
        obtain ⟨n, hn, rfl⟩ := List.mem_map.mp hz
        exact ⟨n, hn, rfl⟩
      walk_at "rd"
      refine ⟨_, .inr (X.sR _), rfl, flat_strs _, ?_⟩
      rw [inV_strs, decide_eq_true (show rn z ∈ rS R9 from List.mem_map_of_mem (hns z hz))]
      exact iteF ⟨_, rfl⟩
    · obtain ⟨y, rfl, rfl⟩ := h
      subst hk0
      dsimp only
      refine seqi fun k0 hk0 => ?_
      walk_at "rd"
      refine ⟨⟨_, X.sR _⟩, ?_⟩
      refine lcg_old (jseq_tup K _ _) (X.sR _) R9 (fun n => .str (rn n)) (dts_rS R9) (by decide) (fun n => decide (n ∈ ns)) (fun n => .str (rn n)) (fun z n hn hz H3 e3 S1 S0 s1 s0 => ?_) (fun D3 H3 hD3 e3 hD3d => ?_)
      · obtain rfl := hz.txt
        walk_at "rd"
        refine ⟨_, .inl (.inl (.inl (e3 _ _ hav))), rfl, flat_strs _, ?_⟩
        rw [inV_strs, decide_eq_decide.mpr (iff_of_eq (mem_rS hn hns))]
        exact ite2 (fun h => s1 h _ _ (Same.refl _) (.str _)) (fun h => s0 (Bool.eq_false_iff.mpr h) _ (Same.refl _))
      · obtain ⟨a3, e, ha3⟩ := Dt.rules (l := R9.filter fun n => decide (n ∈ ns)) hD3d
        cases e
        have hp3 := e3 _ _ hp
        refine ⟨_, rfl, _, .inl (.inl ha3), fun l hl => ?_⟩
        have npl : p ≠ l := ne_of_none hp3 hl
        refine ⟨C, dx, [], (by rw [upd_ne npl]; exact hp3), X.cl, X.nN, (by decide), ?_⟩
        generalize hH4 : upd (upd H3 l (HO.tup ((rS (R9.filter fun n => decide (n ∈ ns))).map V.str))) p (.ins C dx (putF ("_names" : Str) (.ref l) [])) = H4
        have h4p : H4 p = some (.ins C dx (putF ("_names" : Str) (.ref l) [])) := by rw [← hH4, upd_same]
        have h4l : H4 l = some (.tup ((rS (R9.filter fun n => decide (n ∈ ns))).map V.str)) := by rw [← hH4, upd_ne npl.symm, upd_same]
        have h4b : ∀ b o, H' b = some o → b ≠ p → H4 b = some o := fun b o hb n => by
          rw [← hH4, upd_ne n, upd_ne (ne_of_none (e3 _ _ hb) hl)]
          exact e3 _ _ hb
        subst hk0
        walk_at "rd"
        refine ⟨C, dx, _, h4p, X.cl, X.nN, _, (by rw [lookup_putF, if_pos rfl]), ?_⟩
        refine ⟨l, _, rfl, fun n hn => (List.mem_filter.mp hn).1, List.length_filter_le _ _, .inl (.inl h4l), fun H5 e5 => ?_⟩
        refine ⟨C, dx, _, e5 _ _ h4p, X.cl, X.nK, (show 1 < 1000 by decide), ?_⟩
        refine q _ (fun b o hb n => ?_) ⟨dx, l, upd_same, ?_⟩
        · rw [upd_ne n]
          exact e5 _ _ (h4b b o hb n)
        · rw [upd_ne npl.symm]
          exact e5 _ _ h4l
end
end Fp

namespace Fp
open PySem PySem.Spec PyProof.Rows L2
local macro_rules | `(tactic| walk_at "rd") => `(tactic| simp only [cxK, cxKn, tRet, tRetN, rIntI, rIntB, rLenL, rListL, rListT, rAbs, tDisp, tPairs, tC, tCB, tCons, tNil, tSl, tVar, tNoPart, tPart, rSlL, tOp, tAsg, gName, tIfS, tDrop, tTest, tAnd, tOr, Evl.tCut, tNot, tB, rI0, rI, rIxL, rIxT, rIxD, tDGet, sDPut, tLst, tTup, tBM, tBM0, tPar, rAppend, rPopAt, rPop, rExtend, rTupL, tCall, tNext, rAll, lc_iL, lc_iT, lc_iK, lc_iR, fr_iL, fr_iT, fr_iR, tYes, rIn, rEq, rNe, gTup, gCons, gNil, wipe, tMeth, tFld, sFld, tMake, tProp, tIf, tAndV, tOrV, tNotV, if_true, if_false, Bool.false_eq_true, List.map_cons, List.map_nil, List.nil_append, List.append_nil, List.cons_append, List.getElem?_cons_zero, List.getElem?_cons_succ, Option.some.injEq, exists_and_left, exists_eq_left', exists_eq_left, List.cons.injEq, and_true, true_and, V.ref.injEq, V.int.injEq, V.str.injEq, V.bl.injEq, List.set_cons_zero, List.set_cons_succ])
theorem Same.but {p : Addr} {H H' : Hp} (e : Same H H') : But p H H' := But.of e
section
variable {K : PySem.W.Frag} {P : Program} {w : World} {base : Heap} {mg : Str → Option Value} {aR aD C : Addr} {T : Nat → Addr}
def spListed (C : Addr) : Sp := fun vs H Q _ => ∃ p s, vs = [.ref p] ∧ RuAt H C p s ∧ ∀ v H', Same H H' → Dt H' v (ruD s) → Q v H'
def spKind (C : Addr) : Sp := fun vs H Q _ => ∃ p s, vs = [.ref p] ∧ RuAt H C p s ∧ ∀ H', Same H H' → Q (.str (kn (weak s))) H'
def spClosed (C : Addr) : Sp := fun vs H Q _ => ∃ p s, vs = [.ref p] ∧ RuAt H C p s ∧ weak s ∈ K13 ∧ ∀ p' H', Same H H' → RuAt H' C p' (KR (weak s)) → Q (.ref p') H'
def spCont (C : Addr) : Sp := fun vs H Q _ => ∃ p s z, vs = [.ref p, .str z] ∧ RuAt H C p s ∧ weak s ∈ K13 ∧ ∀ H', Same H H' → Q (.bl (decide (z ∈ rS (KR (weak s))))) H'
def spEq (C : Addr) : Sp := fun vs H Q _ => ∃ p s p' s', vs = [.ref p, .ref p'] ∧ RuAt H C p s ∧ RuAt H C p' s' ∧ (∀ n ∈ s, n ∈ R9) ∧ (∀ n ∈ s', n ∈ R9) ∧ ∀ H', Same H H' → Q (.bl (decide (s = s'))) H'
abbrev s_Rules_listed : Stmt := inClass (topS 11) 3
theorem sc_Rules_listed : FnScope ["self"] ["self"] (defScope s_Rules_listed) := ⟨rfl, rfl, rfl, by decide +kernel, rfl, by decide +kernel, by decide +kernel⟩
theorem ok_listed {f : Addr} {fd : FuncData} (F : Fun K "listed" "Rules.listed" s_Rules_listed f fd) (X : TxR K w mg aR aD C T) : FnOk P w K mg base CX0 1 f fd ["self"] (spListed C) := by
  refine F.ok sc_Rules_listed (fun vs H Q E h => ?_) (fun cdv A outer s H vs Q E hr h => ?_)
  · obtain ⟨p, s, rfl, _⟩ := h
    rfl
  · obtain ⟨p, s, rfl, ⟨dx, t, h1, h2⟩, q⟩ := h
    have m_list := X.m_list
    refine ⟨_, (pss_one (ps_ret (pe_callTy (call_listTK K) (by rfl) m_list (by decide +kernel) (pa_cons (pe_fldK K (pv 0) rfl) pa_nil)))), ?_⟩
    show tRet _ _ [some (.ref p)] H
    walk_at "rd"
    refine ⟨C, dx, _, h1, X.cl, X.nN, _, rFl_names _ _, t, rfl, _, .inl (.inl h2), fun l hl => q _ _ (same_new hl) ?_⟩
    rw [ruD_eq]
    exact .lst upd_same (dts_strs _)
abbrev s_Rules_kind : Stmt := inClass (topS 11) 4
theorem sc_Rules_kind : FnScope ["self"] ["self"] (defScope s_Rules_kind) := ⟨rfl, rfl, rfl, by decide +kernel, rfl, by decide +kernel, by decide +kernel⟩
theorem ok_kind {f : Addr} {fd : FuncData} (F : Fun K "kind" "Rules.kind" s_Rules_kind f fd) (X : TxR K w mg aR aD C T) : FnOk P w K mg base CX0 1 f fd ["self"] (spKind C) := by
  refine F.ok sc_Rules_kind (fun vs H Q E h => ?_) (fun cdv A outer s H vs Q E hr h => ?_)
  · obtain ⟨p, s, rfl, _⟩ := h
    rfl
  · obtain ⟨p, s, rfl, ⟨dx, t, h1, h2⟩, q⟩ := h
    refine ⟨_, (pss_one (ps_ret (pe_fldK K (pv 0) rfl))), ?_⟩
    show tRet _ _ [some (.ref p)] H
    walk_at "rd"
    exact ⟨C, dx, _, h1, X.cl, X.nK, _, rFl_kind _ _, q _ (Same.refl _)⟩
abbrev s_Rules_closed : Stmt := inClass (topS 11) 5
theorem sc_Rules_closed : FnScope ["self"] ["self"] (defScope s_Rules_closed) := ⟨rfl, rfl, rfl, by decide +kernel, rfl, by decide +kernel, by decide +kernel⟩
theorem ok_closed {f : Addr} {fd : FuncData} (F : Fun K "closed" "Rules.closed" s_Rules_closed f fd) (X : TxR K w mg aR aD C T) (D_rules_of : Dn P w K mg base 1 "rules_of" ["kind"] spRulesOf) (N : Kn P w K mg base 3 C ["self", "names"] (spInit C)) :
    FnOk P w K mg base CX0 5 f fd ["self"] (spClosed C) := by
  refine F.ok sc_Rules_closed (fun vs H Q E h => ?_) (fun cdv A outer s H vs Q E hr h => ?_)
  · obtain ⟨p, s, rfl, _⟩ := h
    rfl
  · obtain ⟨p, s, rfl, ⟨dx, t, h1, h2⟩, hk, q⟩ := h
    have mC := X.mC
    refine ⟨_, (pss_one (ps_ret (pk N hr (by rfl) mC (pa_cons (pd D_rules_of (hr.mono (by decide)) (by rfl) (pa_cons (pe_fldK K (pv 0) rfl) pa_nil)) pa_nil)))), ?_⟩
    show tRet _ _ [some (.ref p)] H
    walk_at "rd"
    refine ⟨C, dx, _, h1, X.cl, X.nK, _, rFl_kind _ _, weak s, hk, rfl, fun v H1 e1 hv x dx' nx ndx ne => ?_⟩
    have e2 : Same H1 (upd (upd H1 dx' (.own x)) x (.ins C dx' [])) := fun b o hb => by
      rw [upd_ne (ne_of_none hb nx), upd_ne (ne_of_none hb ndx)]
      exact hb
    refine ⟨x, dx', v, KR (weak s), rfl, upd_same, hv.same e2, KR_in _ hk, ?_, fun H2 k2 r2 => ⟨rfl, ?_⟩⟩
    · have : K13.all (fun k => decide ((KR k).length ≤ 9)) = true := by decide +kernel
      exact of_decide_eq_true (List.all_eq_true.mp this _ hk)
    · rw [KR_filter hk] at r2
      refine q _ _ (fun b o hb => ?_) r2
      have hb1 := e1 _ _ hb
      exact k2 b o (e2 _ _ hb1) (ne_of_none hb1 nx)
abbrev s_Rules___contains__ : Stmt := inClass (topS 11) 6
theorem sc_Rules___contains__ : FnScope ["self", "x"] ["self", "x"] (defScope s_Rules___contains__) := ⟨rfl, rfl, rfl, by decide +kernel, rfl, by decide +kernel, by decide +kernel⟩
theorem ok_contains {f : Addr} {fd : FuncData} (F : Fun K "__contains__" "Rules.__contains__" s_Rules___contains__ f fd) (X : TxR K w mg aR aD C T) : FnOk P w K mg base CX0 1 f fd ["self", "x"] (spCont C) := by
  refine F.ok sc_Rules___contains__ (fun vs H Q E h => ?_) (fun cdv A outer s H vs Q E hr h => ?_)
  · obtain ⟨p, s, z, rfl, _⟩ := h
    rfl
  · obtain ⟨p, s, z, rfl, ⟨dx, t, h1, h2⟩, hk, q⟩ := h
    have m__RULES_OF := X.mD
    refine ⟨_, (pss_one (ps_ret (pe_cmpR (op_inK K) (pv 1) (pe_ix (ix_kdK K w) (pe_glob rfl m__RULES_OF (v := .ref aD) rfl) (pe_fldK K (pv 0) rfl) (fun _ _ => rfl)) rfl))), ?_⟩
    show tRet _ _ [some (.ref p), some (.str z)] H
    walk_at "rd"
    refine ⟨C, dx, _, h1, X.cl, X.nK, _, rFl_kind _ _, ?_⟩
    refine ⟨_, rfl, _, X.dI _ hk, T (weak s), rfl, _, .inr (X.sT _ hk _), rfl, flat_strs _, ?_⟩
    rw [inV_strs]
    exact q _ (Same.refl _)
abbrev s_Rules___eq__ : Stmt := inClass (topS 11) 13
theorem sc_Rules___eq__ : FnScope ["self", "other"] ["self", "other"] (defScope s_Rules___eq__) := ⟨rfl, rfl, rfl, by decide +kernel, rfl, by decide +kernel, by decide +kernel⟩
theorem ok_eq {f : Addr} {fd : FuncData} (F : Fun K "__eq__" "Rules.__eq__" s_Rules___eq__ f fd) (X : TxR K w mg aR aD C T) (IC : C8.InsC K C) : FnOk P w K mg base CX0 1 f fd ["self", "other"] (spEq C) := by
  refine F.ok sc_Rules___eq__ (fun vs H Q E h => ?_) (fun cdv A outer s H vs Q E hr h => ?_)
  · obtain ⟨p, s, p', s', rfl, _⟩ := h
    rfl
  · obtain ⟨p, s, p', s', rfl, ⟨dx, t, h1, h2⟩, ⟨dx', t', h1', h2'⟩, hs, hs', q⟩ := h
    have hu64 := hr.units
    have m_Rules := X.mC
    have m_isinstance := X.m_isi
    refine ⟨_, (pss_one (ps_ret (pe_and (pe_callB (C8.call_isC IC) (by rfl) m_isinstance (by decide +kernel) (pa_cons (pv 1) (pa_cons (pe_glob rfl m_Rules (v := .ref C) rfl) pa_nil))) (pe_one (pe_cmpR (op_eqDK K hu64) (pe_fldK K (pv 0) rfl) (pe_fldK K (pv 1) rfl) (nomark _)))))), ?_⟩
    show tRet _ _ [some (.ref p), some (.ref p')] H
    walk_at "rd"
    refine ⟨dx', _, h1', C, dx, _, h1, X.cl, X.nN, _, rFl_names _ _, C, dx', _, h1', X.cl, X.nN, _, rFl_names _ _, ?_⟩
    have sh : ∀ l : List Nat, (∀ n ∈ l, n ∈ R9) → Shp 1 (.tuple ((rS l).map PyData.str)) := fun l hl => shp_tup fun d hd => by
      obtain ⟨z, hz, rfl⟩ := List.mem_map.mp hd
      obtain ⟨n, hn, rfl⟩ := List.mem_map.mp hz
      exact shp_rn n (hl n hn)
    refine ⟨.tuple ((rS s).map PyData.str), .tuple ((rS s').map PyData.str), Dt.dp (.tup h2 (dts_strs _)), Dt.dp (.tup h2' (dts_strs _)), (sh s hs).ok (by decide), (sh s' hs').ok (by decide), ?_⟩
    have e : PyData.eqv (.tuple ((rS s).map PyData.str)) (.tuple ((rS s').map PyData.str)) = decide (s = s') := by
      show PyData.eqvAll _ _ = _
      rw [eqv_strs, decide_eq_decide.mpr (iff_of_eq (rS_inj hs hs'))]
    rw [e]
    exact q _ (Same.refl _)
/-- the kind whose rules are closed under names -/
def spKW : Sp := fun vs H Q _ => ∃ v b, vs = [v] ∧ b < 512 ∧ Dt H v (ruD (sub b)) ∧ ∀ H', Same H H' → Q (.str (kn (weak (sub b)))) H'
abbrev s__law_kind_with : Stmt := topS 19
theorem sc__law_kind_with : FnScope ["names", "due", "kind", "rules"] ["names"] (defScope s__law_kind_with) := ⟨rfl, rfl, rfl, by decide +kernel, rfl, by decide +kernel, by decide +kernel⟩
theorem ok_kind_with {f : Addr} {fd : FuncData} (F : Fun K "_law_kind_with" "_law_kind_with" s__law_kind_with f fd) (D_law_thirteen : Dn P w K mg base 2 "_law_thirteen" [] spThir) (D_law_closure : Dn P w K mg base 3 "_law_closure" ["names"] spClos) : FnOk P w K mg base CX0 4 f fd ["names"] spKW := by
  refine F.ok sc__law_kind_with (fun vs H Q E h => ?_) (fun cdv A outer s H vs Q E hr h => ?_)
  · obtain ⟨v, b, rfl, _⟩ := h
    rfl
  · obtain ⟨v, b, rfl, hb, hv, q⟩ := h
    have hu64 := hr.units
    refine ⟨_, (pss_cons (ps_set (i := 1) sc__law_kind_with.nd rfl (.inr rfl) (pd D_law_closure (hr.mono (by decide)) (by rfl) (pa_cons (pv 0) pa_nil)))
    (pss_one (ps_ret (pe_ix (ix_listK K) (pe_lc (own := [("kind", 2), ("rules", 3)]) rfl sc__law_kind_with.nd (pi_listK K (pd0 D_law_thirteen (hr.mono (by decide)) (by rfl))) (blkOk_by (by kernel_rfl)) (fun _ _ _ _ _ => (pg_tupK K (pg_tup (n := 2) rfl (pgs_cons (pg_name (i := 2) sc__law_kind_with.nd rfl (.inl rfl)) (pgs_cons (pg_name (i := 3) sc__law_kind_with.nd rfl (.inl rfl)) pgs_nil))))) (fun _ _ _ _ _ => pts_one (pt_cmpR (op_eqDK K hu64) (pv 3) (pv 1) (nomark _))) (fun _ _ _ _ _ => (pv 2))) pe_int (fun _ _ => rfl))))), ?_⟩
    show tSeq _ _ _ [some v, none, none, none] H
    refine seqi fun k0 hk0 => ?_
    walk_at "rd"
    refine ⟨v, sub b, rfl, hv, fun n hn => sub_in hn, sub_len b, fun v1 H1 e1 h1 => ?_⟩
    subst hk0
    walk_at "rd"
    refine ⟨rfl, fun v2 H2 e2 h2 => ?_⟩
    obtain ⟨a2, xs2, rfl, ha2, ht2⟩ := h2.list
    refine ⟨_, rfl, ⟨_, .inl (.inl ha2)⟩, lcg_old (jseq_list K _ _) (.inl (.inl ha2)) K13 kiD ht2 (by decide) (fun k => decide (KR k = clos (sub b))) (fun k => .str (kn k)) (fun x kd hkd hx H3 e3 R1 R0 r1 r0 => ?_) (fun D3 H3 hD3 e3 hD => ?_)⟩
    · obtain ⟨xa, y1, y2, rfl, hxa, hy1, hy2⟩ := hx.pair
      walk_at "rd"
      refine ⟨_, .inl (.inl (e3 _ _ hxa)), rfl, _, _, rfl, _, _, rfl, rfl, ?_⟩
      refine ⟨ruD (KR kd), ruD (clos (sub b)), (hy2.same e3).dp, ((h1.same e2).same e3).dp, (shp_ru (KR_in kd hkd)).ok (by decide), (shp_ru fun j hj => clos_in hj).ok (by decide), ?_⟩
      rw [eqv_ru (KR_in kd hkd) fun j hj => clos_in hj]
      exact ⟨_, rfl, ite2 (fun h => r1 h _ _ (Same.refl _) hy1) (fun h => r0 (Bool.eq_false_iff.mpr h) _ (Same.refl _))⟩
    · rw [(sub_ok hb).2] at hD
      obtain ⟨a4, xs4, e, ha4, ht4⟩ := hD.list
      cases e
      obtain ⟨v0, hv0, hd0⟩ := ht4.get (i := 0) (d := .str (kn (weak (sub b)))) rfl
      obtain rfl := hd0.txt
      exact ⟨_, rfl, _, .inl (.inl ha4), _, atI_nat (j := 0) hv0, q _ ((e1.trans e2).trans e3)⟩
end
end Fp

namespace Fp
open PySem PySem.Spec PyProof.Rows L2
local macro_rules | `(tactic| walk_at "rd") => `(tactic| simp only [cxK, cxKn, tRet, tRetN, rIntI, rIntB, rLenL, rListL, rListT, rAbs, tDisp, tPairs, tC, tCB, tCons, tNil, tSl, tVar, tNoPart, tPart, rSlL, tOp, tAsg, gName, tIfS, tDrop, tTest, tAnd, tOr, Evl.tCut, tNot, tB, rI0, rI, rIxL, rIxT, rIxD, tDGet, sDPut, tLst, tTup, tBM, tBM0, tPar, rAppend, rPopAt, rPop, rExtend, rTupL, tCall, tNext, rAll, rOwnIn, rOwn2, rCat, lc_iL, lc_iT, lc_iK, lc_iR, fr_iL, fr_iT, fr_iR, tYes, rIn, rEq, rNe, gTup, gCons, gNil, wipe, tMeth, tFld, sFld, tMake, tProp, tIf, tAndV, tOrV, tNotV, if_true, if_false, Bool.false_eq_true, List.map_cons, List.map_nil, List.nil_append, List.append_nil, List.cons_append, List.getElem?_cons_zero, List.getElem?_cons_succ, Option.some.injEq, exists_and_left, exists_eq_left', exists_eq_left, List.cons.injEq, and_true, true_and, V.ref.injEq, V.int.injEq, V.str.injEq, V.bl.injEq, List.set_cons_zero, List.set_cons_succ])
/-! ### which rules are drawn -/
def pick : List Bool → List Nat → List Nat
  | b :: bs, x :: xs => if b = true then x :: pick bs xs else pick bs xs
  | _, _ => []
theorem pick_snoc : ∀ (bs : List Bool) (xs : List Nat) (b : Bool) (x : Nat), xs[bs.length]? = some x → pick (bs ++ [b]) xs = pick bs xs ++ (if b = true then [x] else [])
  | [], [], _, _, h => by simp at h
  | [], y :: r, b, x, h => by
    cases h
    cases b <;> rfl
  | c :: bs, [], _, _, h => by simp at h
  | c :: bs, y :: r, b, x, h => by
    have ih := pick_snoc bs r b x h
    cases c with
    | true =>
      show y :: pick (bs ++ [b]) r = y :: pick bs r ++ _
      rw [ih]
      rfl
    | false => exact ih
def bitsOf : List Bool → Nat
  | [] => 0
  | b :: r => (if b = true then 1 else 0) + 2 * bitsOf r
theorem pick9 : ∀ b0 b1 b2 b3 b4 b5 b6 b7 b8 : Bool, pick [b0, b1, b2, b3, b4, b5, b6, b7, b8] R9 = sub (bitsOf [b0, b1, b2, b3, b4, b5, b6, b7, b8]) ∧ bitsOf [b0, b1, b2, b3, b4, b5, b6, b7, b8] < 512 := by decide +kernel
theorem pick_sub {bs : List Bool} (h : bs.length = 9) : ∃ b, b < 512 ∧ pick bs R9 = sub b := by
  match bs, h with
  | [b0, b1, b2, b3, b4, b5, b6, b7, b8], _ => exact ⟨_, (pick9 b0 b1 b2 b3 b4 b5 b6 b7 b8).2, (pick9 b0 b1 b2 b3 b4 b5 b6 b7 b8).1⟩
theorem pick_len : ∀ (bs : List Bool) (xs : List Nat), (pick bs xs).length ≤ bs.length
  | [], _ => Nat.le_of_eq (by cases ‹List Nat› <;> rfl)
  | _ :: _, [] => Nat.zero_le _
  | b :: bs, x :: xs => by
    have ih := pick_len bs xs
    cases b with
    | true => exact Nat.succ_le_succ ih
    | false => exact Nat.le_succ_of_le ih
theorem perm_map_inv {α β : Type} {f : α → β} {es m : List β} (h : es.Perm m) : ∀ l : List α, m = l.map f → ∃ l' : List α, l'.Perm l ∧ es = l'.map f := by
  induction h with
  | nil => exact fun l e => ⟨l, List.Perm.refl _, e⟩
  | cons x _ ih =>
    intro l e
    cases l with
    | nil => cases e
    | cons a r =>
      injection e with e1 e2
      obtain ⟨r', p, e3⟩ := ih r e2
      exact ⟨a :: r', p.cons a, by rw [e1, e3]; rfl⟩
  | swap x y l0 =>
    intro l e
    match l, e with
    | a :: b :: r, e =>
      injection e with e1 e2
      injection e2 with e2 e3
      exact ⟨b :: a :: r, List.Perm.swap a b r, by rw [e1, e2, e3]; rfl⟩
  | trans _ _ ih1 ih2 =>
    intro l e
    obtain ⟨l2, p2, e2⟩ := ih2 l e
    obtain ⟨l1, p1, e1⟩ := ih1 l2 e2
    exact ⟨l1, p1.trans p2, e1⟩
theorem filter_perm {a b : List Nat} (h : a.Perm b) : R9.filter (fun i => decide (i ∈ a)) = R9.filter fun i => decide (i ∈ b) :=
  List.filter_congr fun i _ => decide_eq_decide.mpr h.mem_iff
def kS2 : List Str := kS ++ [("" : Str), ("q" : Str)]
theorem kS2_no : K13.all (fun k => kS2.all fun z => !decide (z ∈ rS (KR k))) = true := by decide +kernel
theorem weak_in (b : Nat) : weak (sub b) ∈ K13 := (weak_head fun n hn => sub_in hn).2
theorem shp_kS2 : ∀ z ∈ kS2, Shp 0 (.str z) := by
  have h : kS2.all (fun z => (PyData.str z).canLay0) = true := by decide +kernel
  exact fun z hz => ⟨List.all_eq_true.mp h z hz, Nat.le_refl _⟩
theorem RuAt.but {p : Addr} {kvs : List (Key × V)} {H H' : Hp} {C q : Addr} {s : List Nat} (hp : H p = some (.dK kvs)) (h : RuAt H C q s) (e : But p H H') : RuAt H' C q s := by
  obtain ⟨dx, t, h1, h2⟩ := h
  exact ⟨dx, t, e.1 _ _ h1 (ne_of h1 hp (by intro z; cases z)), e.1 _ _ h2 (ne_of h2 hp (by intro z; cases z))⟩
section
variable {K : PySem.W.Frag} {P : Program} {w : World} {base : Heap} {mg : Str → Option Value} {aR aD C : Addr} {T : Nat → Addr}
def spLaw (K : PySem.W.Frag) : Sp := fun vs H Q _ => ∃ (a : Addr) (ns : List Int), vs = [.ref a] ∧ SqL K H a (ns.map V.int) ∧ ns.length ≤ 63 ∧ ∀ H', Q (.bl true) H'
abbrev s_law : Stmt := topS 20
theorem sc_law : FnScope ["script", "pen", "kinds", "turn", "share", "some", "made", "due", "whole", "kind", "rules", "rule"] ["script"] (defScope s_law) := ⟨rfl, rfl, rfl, by decide +kernel, rfl, by decide +kernel, by decide +kernel⟩
theorem ok_law {f : Addr} {fd : FuncData} (F : Fun K "law" "law" s_law f fd) (X : TxR K w mg aR aD C T) (hnf : PySem.W.notFirst K C (.ref C) = true) (m_range : mg "range" = none)
    (D_law_pen : Dn P w K mg base 1 "_law_pen" ["script"] (spPen K)) (D_law_draw : Dn P w K mg base 1 "_law_draw" ["pen", "span"] spDraw) (D_law_shuffled : Dn P w K mg base 2 "_law_shuffled" ["pen", "items"] spShuf)
    (D_law_nine : Dn P w K mg base 1 "_law_nine" [] spNine) (D_law_thirteen : Dn P w K mg base 2 "_law_thirteen" [] spThir) (D_law_closure : Dn P w K mg base 3 "_law_closure" ["names"] spClos) (D_law_kind_with : Dn P w K mg base 4 "_law_kind_with" ["names"] spKW)
    (N : Kn P w K mg base 3 C ["self", "names"] (spInit C)) (M_closed : Mn P w K mg base 5 C "closed" ["self"] (spClosed C)) (M_listed : Mn P w K mg base 1 C "listed" ["self"] (spListed C)) (M_kind : Pn P w K mg base 1 C "kind" (spKind C))
    (M_cont : Mn P w K mg base 1 C "__contains__" ["self", "x"] (spCont C)) (M_eq : Mn P w K mg base 1 C "__eq__" ["self", "other"] (spEq C)) : FnOk P w K mg base CX0 6 f fd ["script"] (spLaw K) := by
  refine F.ok sc_law (fun vs H Q E h => ?_) (fun cdv A outer s H vs Q E hr h => ?_)
  · obtain ⟨a, ns, rfl, _⟩ := h
    rfl
  · obtain ⟨a, ns, rfl, hS, hlen, q⟩ := h
    have hu64 := hr.units
    have mC := X.mC
    refine ⟨_, (pss_cons (ps_set (i := 1) sc_law.nd rfl (.inr rfl) (pd D_law_pen (hr.mono (by decide)) (by rfl) (pa_cons (pv 0) pa_nil)))
    (pss_cons (ps_setLc (i := 2) (own := [("kind", 9), ("rules", 10)]) rfl sc_law.nd rfl rfl (sw_true rfl rfl rfl (by decide +kernel)) (pi_listK K (pd0 D_law_thirteen (hr.mono (by decide)) (by rfl))) (blkOk_by (by kernel_rfl)) (fun _ _ _ _ _ => (pg_tupK K (pg_tup (n := 2) rfl (pgs_cons (pg_name (i := 9) sc_law.nd rfl (.inl rfl)) (pgs_cons (pg_name (i := 10) sc_law.nd rfl (.inl rfl)) pgs_nil))))) (fun _ _ _ _ _ => pts_nil) (fun _ _ _ _ _ => (pv 9)))
    (pss_cons (ps_for PassesOwn.never rfl (pi_range1 rfl m_range (pa_cons pe_int pa_nil)) (pg_name (i := 3) sc_law.nd rfl (.inl rfl))
      (pss_cons (ps_set (i := 4) sc_law.nd rfl (.inr rfl) (pe_op op_add pe_int (pd D_law_draw (hr.mono (by decide)) (by rfl) (pa_cons (pv 1) (pa_cons pe_int pa_nil)))))
        (pss_cons (ps_setLc (i := 5) (own := [("rule", 11)]) rfl sc_law.nd rfl rfl (sw_true rfl rfl rfl (by decide +kernel)) (pi_listK K (pd0 D_law_nine (hr.mono (by decide)) (by rfl))) (blkOk_by (by kernel_rfl)) (fun _ _ _ _ _ => (pg_name (i := 11) sc_law.nd rfl (.inl rfl))) (fun _ _ _ _ _ => pts_one (pt_cmpR op_eq (pd D_law_draw (hr.mono (by decide)) (by rfl) (pa_cons (pv 1) (pa_cons (pv 4) pa_nil))) pe_int (nomark _))) (fun _ _ _ _ _ => (pv 11)))
        (pss_cons (ps_asg (pe_tup (pa_cons (pk N (hr.mono (by decide)) (by rfl) mC (pa_cons (pd D_law_shuffled (hr.mono (by decide)) (by rfl) (pa_cons (pv 1) (pa_cons (pv 5) pa_nil))) pa_nil)) (pa_cons (pd D_law_closure (hr.mono (by decide)) (by rfl) (pa_cons (pv 5) pa_nil)) pa_nil))) (pg_tupK K (pg_tup (n := 2) rfl (pgs_cons (pg_name (i := 6) sc_law.nd rfl (.inr rfl)) (pgs_cons (pg_name (i := 7) sc_law.nd rfl (.inr rfl)) pgs_nil)))))
        (pss_cons (ps_set (i := 8) sc_law.nd rfl (.inl rfl) (pm0 X.cl M_closed (hr.mono (by decide)) (pv 6)))
        (pss_cons (ps_if (PW.pt (pw_or (pt_cmpR (op_neDK K hu64) (pm0 X.cl M_listed (hr.mono (by decide)) (pv 8)) (pv 7) (nomark _)) (pw_or (pt_cmpR op_ne (pq X.cl M_kind (hr.mono (by decide)) (pv 6)) (pd D_law_kind_with (hr.mono (by decide)) (by rfl) (pa_cons (pv 5) pa_nil)) (nomark _)) (pw_or1 (pt_cmpR op_ne (pq X.cl M_kind (hr.mono (by decide)) (pv 8)) (pq X.cl M_kind (hr.mono (by decide)) (pv 6)) (nomark _))))))
      (pss_one (ps_ret pe_bl))
      pss_nil)
        (pss_cons (ps_if (PW.pt (pw_or (pt_cmpR (op_neDK K hu64) (pe_lc (own := [("rule", 11)]) rfl sc_law.nd (pi_listK K (pd0 D_law_nine (hr.mono (by decide)) (by rfl))) (blkOk_by (by kernel_rfl)) (fun _ _ _ _ _ => (pg_name (i := 11) sc_law.nd rfl (.inl rfl))) (fun _ _ _ _ _ => pts_one (pt_cmpR op_ne (pe_cmpR (op_ownIn M_cont (hr.mono (by decide))) (pv 11) (pv 6) rfl) (pe_cmpR (op_inK K) (pv 11) (pv 7) rfl) (nomark _))) (fun _ _ _ _ _ => (pv 11))) (pe_lst pa_nil) (nomark _)) (pw_or1 (pt_not (pt_cmpR (op_ownCmp (op := .Eq) (fun _ _ => rfl) hnf M_eq (hr.mono (by decide))) (pm0 X.cl M_closed (hr.mono (by decide)) (pv 8)) (pv 8) (nomark _))))))
      (pss_one (ps_ret pe_bl))
      pss_nil)
        (pss_cons (ps_if (PW.pt (pw_or (pt_cmpR (op_neDK K hu64) (pm0 X.cl M_listed (hr.mono (by decide)) (pv 6)) (pv 5) (nomark _)) (pw_or1 (pt_cmpR op_ne (pe_cmpR (op_ownCmp (op := .Eq) (fun _ _ => rfl) hnf M_eq (hr.mono (by decide))) (pv 6) (pv 8) (nomark _)) (pe_cmpR (op_eqDK K hu64) (pv 5) (pv 7) (nomark _)) (nomark _)))))
      (pss_one (ps_ret pe_bl))
      pss_nil)
        (pss_one (ps_if (pt_cmpR (op_neDK K hu64) (pe_lc (own := [("kind", 9)]) rfl sc_law.nd (pi_listK K (pe_op op_cat (pv 2) (pe_lst (pa_cons pe_str (pa_cons pe_str pa_nil))))) (blkOk_by (by kernel_rfl)) (fun _ _ _ _ _ => (pg_name (i := 9) sc_law.nd rfl (.inl rfl))) (fun _ _ _ _ _ => pts_one (pt_cmpR (op_ownIn M_cont (hr.mono (by decide))) (pv 9) (pv 6) rfl)) (fun _ _ _ _ _ => (pv 9))) (pe_lst pa_nil) (nomark _))
      (pss_one (ps_ret pe_bl))
      pss_nil))))))))))
    (pss_one (ps_ret pe_bl))))), ?_⟩
    show tSeq _ _ _ [some (.ref a), none, none, none, none, none, none, none, none, none, none, none] H
    refine seqi fun k0 hk0 => ?_
    walk_at "rd"
    refine ⟨a, ns, rfl, hS, hlen, fun H1 p c np e1 P1 => ?_⟩
    obtain ⟨kvs1, hp1⟩ := P1.dict
    subst hk0
    refine seqi fun k0 hk0 => ?_
    walk_at "rd"
    refine ⟨rfl, fun v2 H2 e2 h2 => ?_⟩
    obtain ⟨a2, xs2, rfl, ha2, ht2⟩ := h2.list
    refine ⟨_, rfl, ⟨_, .inl (.inl ha2)⟩, lcg_old (jseq_list K _ _) (.inl (.inl ha2)) K13 kiD ht2 (by decide) (fun _ => true) (fun k => .str (kn k)) (fun x kd hkd hx H3 e3 R1 R0 r1 r0 => ?_) (fun D3 H3 hD3 e3 hD => ?_)⟩
    · obtain ⟨xa, y1, y2, rfl, hxa, hy1, hy2⟩ := hx.pair
      walk_at "rd"
      exact ⟨_, .inl (.inl (e3 _ _ hxa)), rfl, _, _, rfl, _, _, rfl, rfl, r1 rfl _ _ (Same.refl _) hy1⟩
    have hDk : Dt H3 (.ref D3) (.list (kS.map PyData.str)) := hD
    clear hD
    subst hk0
    refine seqi fun k0 hk0 => ?_
    walk_at "rd"
    refine ⟨by decide, by decide, ?_⟩
    refine forg_by (jseq_rng 0 90) (fun i σ' H' => ∃ y3 y4 y5 y6 y7 y8 y9 y10 y11, σ' = [some (.ref a), some (.ref p), some (.ref D3), y3, y4, y5, y6, y7, y8, y9, y10, y11] ∧ PenOk H' p c (20 * i) ∧ Dt H' (.ref D3) (.list (kS.map PyData.str)))
      ⟨none, none, none, none, none, none, none, none, none, rfl, (P1.same e2).same e3, hDk⟩ (fun i σ' H' _ h => trivial) (fun i x σ' H4 hx h => ?_) (fun σ' H' h => ?_)
    · obtain ⟨y3, y4, y5, y6, y7, y8, y9, y10, y11, rfl, P4, hDk4⟩ := h
      have hi : i < 90 := by
        have := (List.getElem?_eq_some_iff.mp hx).1
        rw [rngV_len] at this
        exact this
      clear hx hDk
      obtain ⟨kvs4, hp4⟩ := P4.dict
      walk_at "rd"
      refine seqi fun k1 hk1 => ?_
      walk_at "rd"
      refine ⟨p, c, 3, 20 * i, rfl, P4, by omega, by decide, by decide, fun r H5 r0 r1 P5 b5 => ?_⟩
      have hDk5 := hDk4.but hp4 b5
      obtain ⟨kvs5, hp5⟩ := P5.dict
      clear hDk4 hp4
      subst hk1
      refine ⟨r, rfl, ?_⟩
      refine seqi fun k1 hk1 => ?_
      walk_at "rd"
      refine ⟨rfl, fun v6 H6 e6 h6 => ?_⟩
      obtain ⟨a6, rfl, ha6⟩ := h6.rules
      refine ⟨_, rfl, ⟨_, .inl (.inl ha6)⟩, ?_⟩
      have P6 := P5.same e6
      have hp6 := e6 _ _ hp5
      obtain ⟨cxs, hcx6⟩ := P6.cells
      refine lcg_by (jseq_list K a6 ((rS R9).map V.str)) (fun D j acc H' => ∃ bs : List Bool, bs.length = j ∧ j ≤ 9 ∧ acc = (rS (pick bs R9)).map V.str ∧ H' D = some (.lst acc) ∧ But p H6 H' ∧ PenOk H' p c (20 * i + 1 + j))
        (fun D hD => ⟨[], rfl, by decide, rfl, upd_same, But.of (same_new hD), P6.same (same_new hD)⟩) (fun D j acc H' hD hj h => ?_) (fun D j x acc H' hD hx h => ?_) (fun D acc H' hD h => ?_)
      · obtain ⟨bs, _, _, _, _, b, _⟩ := h
        exact .inl (.inl (b.1 _ _ ha6 (ne_of ha6 hp6 (by intro z; cases z))))
      · obtain ⟨bs, hbl, hj9, rfl, hacc, b7, P7⟩ := h
        have hjl : j < 9 := (List.getElem?_eq_some_iff.mp hx).1
        have npD : D ≠ p := (ne_of_none hp6 hD).symm
        have ncD : D ≠ c := (ne_of_none hcx6 hD).symm
        obtain ⟨n, hn, rfl⟩ : ∃ n, R9[j]? = some n ∧ x = .str (rn n) := by
          rw [List.getElem?_map] at hx
          unfold rS at hx
          rw [List.getElem?_map] at hx
          cases h9 : R9[j]? with
          | none => rw [h9] at hx; cases hx
          | some n => rw [h9] at hx; cases hx; exact ⟨n, rfl, rfl⟩
        walk_at "rd"
        refine ⟨p, c, 2 + r, 20 * i + 1 + j, rfl, P7, by omega, by omega, ?_, fun r8 H8 r80 r81 P8 b8 => ⟨rfl, ?_⟩⟩
        · obtain ⟨m, rfl⟩ : ∃ m : Nat, r = m := ⟨r.toNat, by omega⟩
          exact lg_small (n := 2 + m) (by omega)
        · have hacc8 := b8.1 _ _ hacc npD
          refine ite2 (fun h => ?_) (fun h => ?_)
          · refine ⟨_, hacc8, ?_, _, bs ++ [true], by rw [List.length_append, hbl]; rfl, hjl, ?_, upd_same, ((b7.trans b8).mut hD), (P8.mut npD ncD).mono (by omega)⟩
            · rw [List.length_map]
              unfold rS
              rw [List.length_map]
              refine small1000 (Nat.le_trans (?_ : _ ≤ 9) (by decide))
              have := pick_len bs R9
              omega
            · rw [pick_snoc bs R9 true n (by rw [hbl]; exact hn), if_pos rfl]
              unfold rS
              rw [List.map_append, List.map_append]
              rfl
          · refine ⟨_, bs ++ [false], by rw [List.length_append, hbl]; rfl, hjl, ?_, hacc8, b7.trans b8, P8.mono (by omega)⟩
            rw [pick_snoc bs R9 false n (by rw [hbl]; exact hn), if_neg (by decide), List.append_nil]
      · obtain ⟨bs, hbl, _, rfl, hacc, b7, P7⟩ := h
        obtain ⟨b, hb, eb⟩ := pick_sub (bs := bs) hbl
        rw [eb] at hacc
        have hs : Dt H' (.ref D) (ruD (sub b)) := by rw [ruD_eq]; exact .lst hacc (dts_strs _)
        have hDk7 := ((hDk5.same e6).but hp6 b7)
        obtain ⟨kvs7, hp7⟩ := P7.dict
        clear hDk5 hacc b7 hD
        subst hk1
        refine seqi fun k1 hk1 => ?_
        walk_at "rd"
        refine ⟨p, c, .ref D, _, (sub b).map (fun n => .str (rn n)), 0, rfl, P7, hs, (fun d hd => ?_), by decide, (by rw [List.length_map]; have := sub_len b; omega), by omega, fun a8 H8 es pm P8 b8 h8 => ?_⟩
        · obtain ⟨n, hn, rfl⟩ := List.mem_map.mp hd
          exact shp_rn n (sub_in hn)
        obtain ⟨ns8, pm8, rfl⟩ := perm_map_inv pm (sub b) rfl
        have hin8 : ∀ n ∈ ns8, n ∈ R9 := fun n hn => sub_in (pm8.mem_iff.mp hn)
        have hlen8 : ns8.length ≤ 9 := by rw [pm8.length_eq]; exact sub_len b
        have hs8 := hs.but hp7 b8
        have hDk8 := hDk7.but hp7 b8
        have l1 : ((rS R9).map V.str).length = 9 := rfl
        have l2 : ((sub b).map fun n => PyData.str (rn n)).length = (sub b).length := List.length_map ..
        have P8 : PenOk H8 p c (20 * i + 20) := P8.mono (by have := sub_len b; omega)
        clear l1 l2
        clear hDk7 hs P7 hp7
        intro x9 dx nx ndx ne
        have e9 : Same H8 (upd (upd H8 dx (.own x9)) x9 (.ins C dx [])) := fun b o hb => by
          rw [upd_ne (ne_of_none hb nx), upd_ne (ne_of_none hb ndx)]
          exact hb
        refine ⟨x9, dx, .ref a8, ns8, rfl, upd_same, h8.same e9, hin8, hlen8, fun H10 k10 r10 => ⟨rfl, ?_⟩⟩
        rw [filter_perm pm8, sub_filter] at r10
        have e10 : Same H8 H10 := fun b o hb => k10 b o (e9 _ _ hb) (ne_of_none hb nx)
        refine ⟨.ref D, sub b, rfl, hs8.same e10, fun n hn => sub_in hn, sub_len b, fun v11 H11 e11 h11 => ?_⟩
        have e11' := e10.trans e11
        refine ⟨by show 2 ≤ sizeLine; decide, fun tp htp => ?_⟩
        have e12 : Same H11 (upd H11 tp (.tup [.ref x9, v11])) := same_new htp
        have w12 := e11'.trans e12
        refine ⟨_, .inl (.inl upd_same), rfl, _, _, rfl, _, _, rfl, rfl, ?_⟩
        have hs12 := hs8.same w12
        have hDk12 := hDk8.same w12
        have P12 := P8.same w12
        have r12 := r10.same (e11.trans e12)
        have d12 := h11.same e12
        revert hs12 hDk12 P12 r12 d12
        generalize upd H11 tp (.tup [.ref x9, v11]) = H12
        intro hs12 hDk12 P12 r12 d12
        clear e12 w12 htp h11 e11 e11' e10 r10 k10 e9 ne nx ndx h8 pm b8 hs8 hDk8 P8
        subst hk1
        refine seqi fun k1 hk1 => ?_
        walk_at "rd"
        obtain ⟨dx9, t9, g1, g2⟩ := id r12
        refine ⟨dx9, _, g1, rFl_no _ _ _ (by decide +kernel) (by decide +kernel), x9, sub b, rfl, r12, weak_in b, fun p13 H13 e13 r13 => ?_⟩
        have hs13 := hs12.same e13
        have hDk13 := hDk12.same e13
        have P13 := P12.same e13
        have d13 := d12.same e13
        have r13' := r12.same e13
        have kwl : KR (weak (sub b)) = clos (sub b) := (sub_ok hb).1
        have kin : ∀ n ∈ KR (weak (sub b)), n ∈ R9 := KR_in _ (weak_in b)
        clear hs12 hDk12 P12 d12 r12 g1 g2
        obtain ⟨dx9', t9', g1, g2⟩ := id r13'
        obtain ⟨dx13, t13, g3, g4⟩ := id r13
        subst hk1
        refine seqi fun k1 hk1 => ?_
        walk_at "rd"
        refine ⟨dx13, _, g3, rFl_no _ _ _ (by decide +kernel) (by decide +kernel), p13, _, rfl, r13, fun v14 H14 e14 h14 => ?_⟩
        refine ⟨_, _, h14.dp, (d13.same e14).dp, (shp_ru kin).ok (by decide), (shp_ru fun j hj => clos_in hj).ok (by decide), ?_⟩
        rw [eqv_ru kin fun j hj => clos_in hj, decide_eq_true kwl]
        refine ⟨_, rfl, iteF ?_⟩
        refine ⟨dx9', _, e14 _ _ g1, x9, sub b, rfl, r13'.same e14, fun H15 e15 => ?_⟩
        refine ⟨.ref D, b, rfl, hb, (hs13.same e14).same e15, fun H16 e16 => ⟨rfl, ?_⟩⟩
        rw [decide_eq_true rfl]
        refine iteF ?_
        have e6 := (e14.trans e15).trans e16
        refine ⟨dx13, _, e6 _ _ g3, p13, _, rfl, r13.same e6, fun H17 e17 => ?_⟩
        refine ⟨dx9', _, (e6.trans e17) _ _ g1, x9, sub b, rfl, r13'.same (e6.trans e17), fun H18 e18 => ⟨rfl, ?_⟩⟩
        rw [weak_KR (weak_in b), decide_eq_true rfl]
        refine iteF ?_
        have ew := (e6.trans e17).trans e18
        have hs18 := hs13.same ew
        have hDk18 := hDk13.same ew
        have P18 := P13.same ew
        have d18 := d13.same ew
        have rm := r13'.same ew
        have rw := r13.same ew
        have g1 := ew _ _ g1
        have g3 := ew _ _ g3
        clear e6 ew e18 e17 e16 e15 h14 e14 hs13 hDk13 P13 d13 r13' r13
        subst hk1
        refine seqi fun k1 hk1 => ?_
        walk_at "rd"
        obtain ⟨a11, rfl, ha11⟩ := d18.rules
        refine ⟨rfl, fun v19 H19 e19 h19 => ?_⟩
        obtain ⟨a19, rfl, ha19⟩ := h19.rules
        refine ⟨_, rfl, ⟨_, .inl (.inl ha19)⟩, ?_⟩
        refine lcg_old (jseq_list K a19 ((rS R9).map V.str)) (.inl (.inl ha19)) R9 (fun n => .str (rn n)) (dts_rS R9) (by decide) (fun _ => false) (fun n => .str (rn n)) (fun z n hn hz H20 e20 S1 S0 s1 s0 => ?_) (fun D20 H20 hD20 e20 h20 => ?_)
        · obtain rfl := hz.txt
          have e21 := e19.trans e20
          walk_at "rd"
          refine ⟨_, _, e21 _ _ g1, x9, sub b, _, rfl, rm.same e21, weak_in b, fun H22 e22 => ⟨_, rfl, ?_⟩⟩
          refine ⟨_, .inl (.inl (.inl ((e21.trans e22) _ _ ha11))), rfl, flat_strs _, ?_⟩
          rw [inV_strs, kwl]
          refine ⟨rfl, ?_⟩
          rw [decide_eq_true rfl]
          exact iteF (s0 rfl _ e22)
        · refine ⟨Nat.zero_le _, fun q20 hq20 => ?_⟩
          have e21 := (e19.trans e20).trans (same_new (o := .lst []) hq20)
          refine ne_nilD (ds := []) (h20.same (same_new hq20)) (by decide) upd_same ⟨_, rfl, iteF ?_⟩
          refine ⟨_, _, e21 _ _ g3, rFl_no _ _ _ (by decide +kernel) (by decide +kernel), p13, _, rfl, rw.same e21, by rw [weak_KR (weak_in b)]; exact weak_in b, fun p23 H23 e23 r23 => ?_⟩
          rw [weak_KR (weak_in b)] at r23
          have e24 := e21.trans e23
          obtain ⟨dx23, t23, g5, g6⟩ := id r23
          refine ⟨_, rfl, _, _, g5, _, _, e24 _ _ g3, p23, _, p13, _, rfl, r23, rw.same e24, kin, kin, fun H25 e25 => ⟨_, rfl, ?_⟩⟩
          rw [decide_eq_true rfl]
          refine iteF ?_
          have ew := e24.trans e25
          have hs26 := hs18.same ew
          have hDk26 := hDk18.same ew
          have P26 := P18.same ew
          have d26 := d18.same ew
          have rm26 := rm.same ew
          have rw26 := rw.same ew
          have g1 := ew _ _ g1
          have g3 := ew _ _ g3
          clear ew e25 e24 g6 g5 r23 e23 e21 hq20 h20 e20 ha19 h19 e19 ha11 hs18 hDk18 P18 d18 rm rw
          subst hk1
          refine seqi fun k1 hk1 => ?_
          walk_at "rd"
          refine ⟨_, _, g1, rFl_no _ _ _ (by decide +kernel) (by decide +kernel), x9, _, rfl, rm26, fun v27 H27 e27 h27 => ?_⟩
          have sin : ∀ n ∈ sub b, n ∈ R9 := fun n hn => sub_in hn
          refine ⟨_, _, h27.dp, (hs26.same e27).dp, (shp_ru sin).ok (by decide), (shp_ru sin).ok (by decide), ?_⟩
          rw [eqv_ru sin sin, decide_eq_true rfl]
          refine ⟨_, rfl, iteF ?_⟩
          refine ⟨_, _, e27 _ _ g1, _, _, e27 _ _ g3, x9, _, p13, _, rfl, rm26.same e27, rw26.same e27, sin, kin, fun H28 e28 => ?_⟩
          have e29 := e27.trans e28
          refine ⟨_, _, (hs26.same e29).dp, (d26.same e29).dp, (shp_ru sin).ok (by decide), (shp_ru fun j hj => clos_in hj).ok (by decide), ?_⟩
          rw [eqv_ru sin fun j hj => clos_in hj, kwl]
          refine ⟨rfl, ?_⟩
          rw [decide_eq_true rfl]
          refine iteF ?_
          subst hk1
          walk_at "rd"
          obtain ⟨aK, xsK, e, haK, hxK⟩ := (hDk26.same e29).list
          cases e
          obtain rfl := hxK.strs
          refine ⟨(by show 2 ≤ sizeLine; decide), fun q1 hq1 => ?_⟩
          have f1 : Same H28 (upd H28 q1 (.lst [.str ("" : Str), .str ("q" : Str)])) := same_new hq1
          refine ⟨_, f1 _ _ haK, _, upd_same, (by show 15 ≤ sizeLine; decide), fun q2 hq2 => ?_⟩
          have f2 := f1.trans (same_new (o := .lst (kS.map V.str ++ [.str ("" : Str), .str ("q" : Str)])) hq2)
          refine ⟨⟨_, .inl (.inl upd_same)⟩, ?_⟩
          refine lcg_old (jseq_list K q2 (kS2.map V.str)) (.inl (.inl upd_same)) kS2 PyData.str (dts_strs kS2) (by decide) (fun _ => false) PyData.str (fun z n hn hz H20 e20 S1 S0 s1 s0 => ?_) (fun D20 H20 hD20 e20 h20 => ?_)
          · obtain rfl := hz.txt
            have e21 := (e29.trans f2).trans e20
            walk_at "rd"
            refine ⟨_, _, e21 _ _ g1, x9, sub b, _, rfl, rm26.same e21, weak_in b, fun H22 e22 => ⟨_, rfl, ?_⟩⟩
            have nz : ¬ n ∈ rS (KR (weak (sub b))) := by
              have := List.all_eq_true.mp (List.all_eq_true.mp kS2_no _ (weak_in b)) n hn
              simpa using this
            rw [decide_eq_false nz]
            exact iteF (s0 rfl _ e22)
          · refine ⟨Nat.zero_le _, fun q3 hq3 => ?_⟩
            refine ne_nilD (ds := []) (h20.same (same_new hq3)) (by decide) upd_same ⟨_, rfl, iteF ?_⟩
            have ez := ((e29.trans f2).trans e20).trans (same_new (o := .lst []) hq3)
            exact ⟨_, _, _, _, _, _, _, _, _, ⟨rfl, rfl, rfl, rfl, rfl, rfl, rfl, rfl, rfl⟩, (P26.same ez).mono (by omega), hDk26.same ez⟩
    · obtain ⟨y3, y4, y5, y6, y7, y8, y9, y10, y11, rfl, _, _⟩ := h
      subst hk0
      dsimp only
      walk_at "rd"
      exact q _
end
end Fp

namespace Fp
open PySem PySem.Spec PyProof.Rows L2
local macro_rules | `(tactic| walk_at "rd") => `(tactic| simp only [cxK, cxKn, tRet, tRetN, rIntI, rIntB, rLenL, rListL, rListT, rAbs, tDisp, tPairs, tC, tCB, tCons, tNil, tSl, tVar, tNoPart, tPart, rSlL, tOp, tAsg, gName, tIfS, tDrop, tTest, tAnd, tOr, Evl.tCut, tNot, tB, rI0, rI, rIxL, rIxT, rIxD, tDGet, sDPut, tLst, tTup, tBM, tBM0, tPar, rAppend, rPopAt, rPop, rExtend, rTupL, tCall, tNext, rAll, rOwnIn, rOwn2, rCat, lc_iL, lc_iT, lc_iK, lc_iR, fr_iL, fr_iT, fr_iR, tYes, rIn, rEq, rNe, gTup, gCons, gNil, wipe, tMeth, tFld, sFld, tMake, tProp, tIf, tAndV, tOrV, tNotV, if_true, if_false, Bool.false_eq_true, List.map_cons, List.map_nil, List.nil_append, List.append_nil, List.cons_append, List.getElem?_cons_zero, List.getElem?_cons_succ, Option.some.injEq, exists_and_left, exists_eq_left', exists_eq_left, List.cons.injEq, and_true, true_and, V.ref.injEq, V.int.injEq, V.str.injEq, V.bl.injEq, List.set_cons_zero, List.set_cons_succ])
theorem all_mk {l : PySem.W.OpenLaw} {w : World} {K : PySem.W.Frag} {h : Heap} {mg : Str → Option Value} {fa C aR aD : Addr} (X : K.In h) (G : h.Ns mainGlobals mg) (hfa : mg "law" = some (.ref fa))
    {f_ro f_ha f_wk f_pe f_dr f_sh f_ni f_th f_cl f_kw f_la f_li f_cd f_co f_eq pK f_kd f_in T_in e_in T0 T1 T2 T3 T4 T5 T6 T7 T8 T9 T10 T11 T12 : Addr} {od_ro an_ro od_ha an_ha od_wk an_wk od_pe an_pe od_dr an_dr od_sh an_sh od_ni an_ni od_th an_th od_cl an_cl od_kw an_kw od_la an_la od_li an_li od_cd an_cd od_co an_co od_eq an_eq od_kd an_kd od_in an_in odT od_R od_T0 od_T1 od_T2 od_T3 od_T4 od_T5 od_T6 od_T7 od_T8 od_T9 od_T10 od_T11 od_T12 : Option Addr} {sl_ro sl_ha sl_wk sl_pe sl_dr sl_sh sl_ni sl_th sl_cl sl_kw sl_la sl_li sl_cd sl_co sl_eq sl_kd sl_in slT sl_R sl_T0 sl_T1 sl_T2 sl_T3 sl_T4 sl_T5 sl_T6 sl_T7 sl_T8 sl_T9 sl_T10 sl_T11 sl_T12 : Array (Option Value)}
    {oc_ro kV_ro dc_ro pm_ro cd_ro ct_ro oc_ha kV_ha dc_ha pm_ha cd_ha ct_ha oc_wk kV_wk dc_wk pm_wk cd_wk ct_wk oc_pe kV_pe dc_pe pm_pe cd_pe ct_pe oc_dr kV_dr dc_dr pm_dr cd_dr ct_dr oc_sh kV_sh dc_sh pm_sh cd_sh ct_sh oc_ni kV_ni dc_ni pm_ni cd_ni ct_ni oc_th kV_th dc_th pm_th cd_th ct_th oc_cl kV_cl dc_cl pm_cl cd_cl ct_cl oc_kw kV_kw dc_kw pm_kw cd_kw ct_kw oc_la kV_la dc_la pm_la cd_la ct_la oc_li kV_li dc_li pm_li cd_li ct_li oc_cd kV_cd dc_cd pm_cd cd_cd ct_cd oc_co kV_co dc_co pm_co cd_co ct_co oc_eq kV_eq dc_eq pm_eq cd_eq ct_eq oc_kd kV_kd dc_kd pm_kd cd_kd ct_kd oc_in kV_in dc_in pm_in cd_in ct_in ocT : Value} {restK : List Value} {esD : Array DictEntry} {nT nD n_R n_T0 n_T1 n_T2 n_T3 n_T4 n_T5 n_T6 n_T7 n_T8 n_T9 n_T10 n_T11 n_T12 : Nat} {t_R_0 t_R_1 t_R_2 t_R_3 t_R_4 t_R_5 t_R_6 t_R_7 t_R_8 t_T1_1 t_T2_0 t_T3_0 t_T3_1 t_T4_0 t_T4_1 t_T4_8 t_T5_0 t_T5_2 t_T6_0 t_T6_2 t_T6_3 t_T7_0 t_T7_2 t_T7_4 t_T8_0 t_T8_1 t_T8_2 t_T8_3 t_T8_4 t_T9_0 t_T9_2 t_T9_5 t_T10_0 t_T10_2 t_T10_3 t_T10_5 t_T10_6 t_T11_0 t_T11_2 t_T11_4 t_T11_5 t_T11_7 t_T12_0 t_T12_1 t_T12_2 t_T12_3 t_T12_4 t_T12_5 t_T12_6 t_T12_7 t_T12_8 : Tok}
    (a_ro : PySem.W.nsIn K mainGlobals "rules_of" = some (some (.ref f_ro)))
    (l_ro : K.lookup f_ro = some ⟨oc_ro, od_ro, .func (PySem.W.fnOf "rules_of" "rules_of" (defArgs s_rules_of) (defBody s_rules_of) (defScope s_rules_of) .none kV_ro dc_ro pm_ro an_ro cd_ro ct_ro), sl_ro⟩)
    (c_ro : PySem.W.codeIn K cd_ro "rules_of" = true)
    (k_ro : PySem.W.keepIn K (.ref f_ro) = true)
    (a_ha : PySem.W.nsIn K mainGlobals "_has_all" = some (some (.ref f_ha)))
    (l_ha : K.lookup f_ha = some ⟨oc_ha, od_ha, .func (PySem.W.fnOf "_has_all" "_has_all" (defArgs s__has_all) (defBody s__has_all) (defScope s__has_all) .none kV_ha dc_ha pm_ha an_ha cd_ha ct_ha), sl_ha⟩)
    (c_ha : PySem.W.codeIn K cd_ha "_has_all" = true)
    (k_ha : PySem.W.keepIn K (.ref f_ha) = true)
    (a_wk : PySem.W.nsIn K mainGlobals "_weakest_kind" = some (some (.ref f_wk)))
    (l_wk : K.lookup f_wk = some ⟨oc_wk, od_wk, .func (PySem.W.fnOf "_weakest_kind" "_weakest_kind" (defArgs s__weakest_kind) (defBody s__weakest_kind) (defScope s__weakest_kind) .none kV_wk dc_wk pm_wk an_wk cd_wk ct_wk), sl_wk⟩)
    (c_wk : PySem.W.codeIn K cd_wk "_weakest_kind" = true)
    (k_wk : PySem.W.keepIn K (.ref f_wk) = true)
    (a_pe : PySem.W.nsIn K mainGlobals "_law_pen" = some (some (.ref f_pe)))
    (l_pe : K.lookup f_pe = some ⟨oc_pe, od_pe, .func (PySem.W.fnOf "_law_pen" "_law_pen" (defArgs s__law_pen) (defBody s__law_pen) (defScope s__law_pen) .none kV_pe dc_pe pm_pe an_pe cd_pe ct_pe), sl_pe⟩)
    (c_pe : PySem.W.codeIn K cd_pe "_law_pen" = true)
    (k_pe : PySem.W.keepIn K (.ref f_pe) = true)
    (a_dr : PySem.W.nsIn K mainGlobals "_law_draw" = some (some (.ref f_dr)))
    (l_dr : K.lookup f_dr = some ⟨oc_dr, od_dr, .func (PySem.W.fnOf "_law_draw" "_law_draw" (defArgs s__law_draw) (defBody s__law_draw) (defScope s__law_draw) .none kV_dr dc_dr pm_dr an_dr cd_dr ct_dr), sl_dr⟩)
    (c_dr : PySem.W.codeIn K cd_dr "_law_draw" = true)
    (k_dr : PySem.W.keepIn K (.ref f_dr) = true)
    (a_sh : PySem.W.nsIn K mainGlobals "_law_shuffled" = some (some (.ref f_sh)))
    (l_sh : K.lookup f_sh = some ⟨oc_sh, od_sh, .func (PySem.W.fnOf "_law_shuffled" "_law_shuffled" (defArgs s__law_shuffled) (defBody s__law_shuffled) (defScope s__law_shuffled) .none kV_sh dc_sh pm_sh an_sh cd_sh ct_sh), sl_sh⟩)
    (c_sh : PySem.W.codeIn K cd_sh "_law_shuffled" = true)
    (k_sh : PySem.W.keepIn K (.ref f_sh) = true)
    (a_ni : PySem.W.nsIn K mainGlobals "_law_nine" = some (some (.ref f_ni)))
    (l_ni : K.lookup f_ni = some ⟨oc_ni, od_ni, .func (PySem.W.fnOf "_law_nine" "_law_nine" (defArgs s__law_nine) (defBody s__law_nine) (defScope s__law_nine) .none kV_ni dc_ni pm_ni an_ni cd_ni ct_ni), sl_ni⟩)
    (c_ni : PySem.W.codeIn K cd_ni "_law_nine" = true)
    (k_ni : PySem.W.keepIn K (.ref f_ni) = true)
    (a_th : PySem.W.nsIn K mainGlobals "_law_thirteen" = some (some (.ref f_th)))
    (l_th : K.lookup f_th = some ⟨oc_th, od_th, .func (PySem.W.fnOf "_law_thirteen" "_law_thirteen" (defArgs s__law_thirteen) (defBody s__law_thirteen) (defScope s__law_thirteen) .none kV_th dc_th pm_th an_th cd_th ct_th), sl_th⟩)
    (c_th : PySem.W.codeIn K cd_th "_law_thirteen" = true)
    (k_th : PySem.W.keepIn K (.ref f_th) = true)
    (a_cl : PySem.W.nsIn K mainGlobals "_law_closure" = some (some (.ref f_cl)))
    (l_cl : K.lookup f_cl = some ⟨oc_cl, od_cl, .func (PySem.W.fnOf "_law_closure" "_law_closure" (defArgs s__law_closure) (defBody s__law_closure) (defScope s__law_closure) .none kV_cl dc_cl pm_cl an_cl cd_cl ct_cl), sl_cl⟩)
    (c_cl : PySem.W.codeIn K cd_cl "_law_closure" = true)
    (k_cl : PySem.W.keepIn K (.ref f_cl) = true)
    (a_kw : PySem.W.nsIn K mainGlobals "_law_kind_with" = some (some (.ref f_kw)))
    (l_kw : K.lookup f_kw = some ⟨oc_kw, od_kw, .func (PySem.W.fnOf "_law_kind_with" "_law_kind_with" (defArgs s__law_kind_with) (defBody s__law_kind_with) (defScope s__law_kind_with) .none kV_kw dc_kw pm_kw an_kw cd_kw ct_kw), sl_kw⟩)
    (c_kw : PySem.W.codeIn K cd_kw "_law_kind_with" = true)
    (k_kw : PySem.W.keepIn K (.ref f_kw) = true)
    (a_la : PySem.W.nsIn K mainGlobals "law" = some (some (.ref f_la)))
    (l_la : K.lookup f_la = some ⟨oc_la, od_la, .func (PySem.W.fnOf "law" "law" (defArgs s_law) (defBody s_law) (defScope s_law) .none kV_la dc_la pm_la an_la cd_la ct_la), sl_la⟩)
    (c_la : PySem.W.codeIn K cd_la "law" = true)
    (k_la : PySem.W.keepIn K (.ref f_la) = true)
    (a_li : PySem.W.findIn K (.ref C) "listed" = some (some (.ref f_li)))
    (i_li : PySem.W.isFn K (.ref f_li) = true)
    (l_li : K.lookup f_li = some ⟨oc_li, od_li, .func (PySem.W.fnOf "listed" "Rules.listed" (defArgs s_Rules_listed) (defBody s_Rules_listed) (defScope s_Rules_listed) .none kV_li dc_li pm_li an_li cd_li ct_li), sl_li⟩)
    (c_li : PySem.W.codeIn K cd_li "Rules.listed" = true)
    (k_li : PySem.W.keepIn K (.ref f_li) = true)
    (a_cd : PySem.W.findIn K (.ref C) "closed" = some (some (.ref f_cd)))
    (i_cd : PySem.W.isFn K (.ref f_cd) = true)
    (l_cd : K.lookup f_cd = some ⟨oc_cd, od_cd, .func (PySem.W.fnOf "closed" "Rules.closed" (defArgs s_Rules_closed) (defBody s_Rules_closed) (defScope s_Rules_closed) .none kV_cd dc_cd pm_cd an_cd cd_cd ct_cd), sl_cd⟩)
    (c_cd : PySem.W.codeIn K cd_cd "Rules.closed" = true)
    (k_cd : PySem.W.keepIn K (.ref f_cd) = true)
    (a_co : PySem.W.findIn K (.ref C) "__contains__" = some (some (.ref f_co)))
    (i_co : PySem.W.isFn K (.ref f_co) = true)
    (l_co : K.lookup f_co = some ⟨oc_co, od_co, .func (PySem.W.fnOf "__contains__" "Rules.__contains__" (defArgs s_Rules___contains__) (defBody s_Rules___contains__) (defScope s_Rules___contains__) .none kV_co dc_co pm_co an_co cd_co ct_co), sl_co⟩)
    (c_co : PySem.W.codeIn K cd_co "Rules.__contains__" = true)
    (k_co : PySem.W.keepIn K (.ref f_co) = true)
    (a_eq : PySem.W.findIn K (.ref C) "__eq__" = some (some (.ref f_eq)))
    (i_eq : PySem.W.isFn K (.ref f_eq) = true)
    (l_eq : K.lookup f_eq = some ⟨oc_eq, od_eq, .func (PySem.W.fnOf "__eq__" "Rules.__eq__" (defArgs s_Rules___eq__) (defBody s_Rules___eq__) (defScope s_Rules___eq__) .none kV_eq dc_eq pm_eq an_eq cd_eq ct_eq), sl_eq⟩)
    (c_eq : PySem.W.codeIn K cd_eq "Rules.__eq__" = true)
    (k_eq : PySem.W.keepIn K (.ref f_eq) = true)
    (p1 : PySem.W.findIn K (.ref C) "kind" = some (some (.ref pK)))
    (p2 : PySem.W.specialIn K (.ref pK) "__get__" = some (some (.builtin "property.__get__")))
    (p3 : PySem.W.takesIn K (.ref pK) = some true)
    (p4 : PySem.W.recIn K pK "property" = some (.ref f_kd :: restK))
    (l_kd : K.lookup f_kd = some ⟨oc_kd, od_kd, .func (PySem.W.fnOf "kind" "Rules.kind" (defArgs s_Rules_kind) (defBody s_Rules_kind) (defScope s_Rules_kind) .none kV_kd dc_kd pm_kd an_kd cd_kd ct_kd), sl_kd⟩)
    (c_kd : PySem.W.codeIn K cd_kd "Rules.kind" = true)
    (k_kd : PySem.W.keepIn K (.ref f_kd) = true)
    (a_in : PySem.W.findIn K (.ref C) "__init__" = some (some (.ref f_in)))
    (i_in : PySem.W.isFn K (.ref f_in) = true)
    (l_in : K.lookup f_in = some ⟨oc_in, od_in, .func (PySem.W.fnOf "__init__" "Rules.__init__" (defArgs s_Rules___init__) (defBody s_Rules___init__) (defScope s_Rules___init__) (.ref T_in) kV_in dc_in pm_in an_in cd_in ct_in), sl_in⟩)
    (c_in : PySem.W.codeIn K cd_in "Rules.__init__" = true)
    (k_in : PySem.W.keepIn K (.ref f_in) = true)
    (lT : K.lookup T_in = some ⟨ocT, odT, .seq #[.ref e_in] nT, slT⟩)
    (aC : PySem.W.nsIn K mainGlobals "Rules" = some (some (.ref C)))
    (mk : PySem.W.makesIn K C = true)
    (kC : PySem.W.keepIn K (.ref C) = true)
    (pg : PySem.W.plainGet K C Str.empty = true)
    (hd : PySem.W.hasDictIn K C = true)
    (po : PySem.W.plainOver K C = true)
    (sa : PySem.W.findIn K (.ref C) "__setattr__" = some (some (.builtin "object.__setattr__")))
    (nN : PySem.W.findIn K (.ref C) "_names" = some none)
    (nK : PySem.W.findIn K (.ref C) "_kind" = some none)
    (iA : PySem.W.findIn K (.ref C) "__class__" = some (some (.builtin "object.__class__")))
    (iN : PySem.W.specialIn K (.builtin "object.__class__") "__get__" = some (some (.builtin "getset_descriptor.__get__")))
    (iT : PySem.W.takesIn K (.builtin "object.__class__") = some true)
    (iM : PySem.W.mroIn K C (.type "object") = some true)
    (iE : PySem.W.kitOne K (.ref C) (.ref C) = some true)
    (nf : PySem.W.notFirst K C (.ref C) = true)
    (aR_ : PySem.W.nsIn K mainGlobals "_RULES" = some (some (.ref aR)))
    (l_R : K.lookup aR = some ⟨.type "tuple", od_R, .seq #[.str "grouping" t_R_0, .str "order" t_R_1, .str "middle" t_R_2, .str "first" t_R_3, .str "last" t_R_4, .str "ends" t_R_5, .str "keep" t_R_6, .str "take" t_R_7, .str "vanish" t_R_8] n_R, sl_R⟩)
    (aD_ : PySem.W.nsIn K mainGlobals "_RULES_OF" = some (some (.ref aD)))
    (lD : K.lookup aD = some ⟨.type "dict", none, .dict esD nD, #[]⟩)
    (d0 : PySem.W.nsIn K aD "trees" = some (some (.ref T0)))
    (l_T0 : K.lookup T0 = some ⟨.type "tuple", od_T0, .seq #[] n_T0, sl_T0⟩)
    (d1 : PySem.W.nsIn K aD "pairs" = some (some (.ref T1)))
    (l_T1 : K.lookup T1 = some ⟨.type "tuple", od_T1, .seq #[.str "order" t_T1_1] n_T1, sl_T1⟩)
    (d2 : PySem.W.nsIn K aD "words" = some (some (.ref T2)))
    (l_T2 : K.lookup T2 = some ⟨.type "tuple", od_T2, .seq #[.str "grouping" t_T2_0] n_T2, sl_T2⟩)
    (d3 : PySem.W.nsIn K aD "bags" = some (some (.ref T3)))
    (l_T3 : K.lookup T3 = some ⟨.type "tuple", od_T3, .seq #[.str "grouping" t_T3_0, .str "order" t_T3_1] n_T3, sl_T3⟩)
    (d4 : PySem.W.nsIn K aD "parity" = some (some (.ref T4)))
    (l_T4 : K.lookup T4 = some ⟨.type "tuple", od_T4, .seq #[.str "grouping" t_T4_0, .str "order" t_T4_1, .str "vanish" t_T4_8] n_T4, sl_T4⟩)
    (d5 : PySem.W.nsIn K aD "middles" = some (some (.ref T5)))
    (l_T5 : K.lookup T5 = some ⟨.type "tuple", od_T5, .seq #[.str "grouping" t_T5_0, .str "middle" t_T5_2] n_T5, sl_T5⟩)
    (d6 : PySem.W.nsIn K aD "heads" = some (some (.ref T6)))
    (l_T6 : K.lookup T6 = some ⟨.type "tuple", od_T6, .seq #[.str "grouping" t_T6_0, .str "middle" t_T6_2, .str "first" t_T6_3] n_T6, sl_T6⟩)
    (d7 : PySem.W.nsIn K aD "tails" = some (some (.ref T7)))
    (l_T7 : K.lookup T7 = some ⟨.type "tuple", od_T7, .seq #[.str "grouping" t_T7_0, .str "middle" t_T7_2, .str "last" t_T7_4] n_T7, sl_T7⟩)
    (d8 : PySem.W.nsIn K aD "sets" = some (some (.ref T8)))
    (l_T8 : K.lookup T8 = some ⟨.type "tuple", od_T8, .seq #[.str "grouping" t_T8_0, .str "order" t_T8_1, .str "middle" t_T8_2, .str "first" t_T8_3, .str "last" t_T8_4] n_T8, sl_T8⟩)
    (d9 : PySem.W.nsIn K aD "outer" = some (some (.ref T9)))
    (l_T9 : K.lookup T9 = some ⟨.type "tuple", od_T9, .seq #[.str "grouping" t_T9_0, .str "middle" t_T9_2, .str "ends" t_T9_5] n_T9, sl_T9⟩)
    (d10 : PySem.W.nsIn K aD "lefts" = some (some (.ref T10)))
    (l_T10 : K.lookup T10 = some ⟨.type "tuple", od_T10, .seq #[.str "grouping" t_T10_0, .str "middle" t_T10_2, .str "first" t_T10_3, .str "ends" t_T10_5, .str "keep" t_T10_6] n_T10, sl_T10⟩)
    (d11 : PySem.W.nsIn K aD "rights" = some (some (.ref T11)))
    (l_T11 : K.lookup T11 = some ⟨.type "tuple", od_T11, .seq #[.str "grouping" t_T11_0, .str "middle" t_T11_2, .str "last" t_T11_4, .str "ends" t_T11_5, .str "take" t_T11_7] n_T11, sl_T11⟩)
    (d12 : PySem.W.nsIn K aD "one" = some (some (.ref T12)))
    (l_T12 : K.lookup T12 = some ⟨.type "tuple", od_T12, .seq #[.str "grouping" t_T12_0, .str "order" t_T12_1, .str "middle" t_T12_2, .str "first" t_T12_3, .str "last" t_T12_4, .str "ends" t_T12_5, .str "keep" t_T12_6, .str "take" t_T12_7, .str "vanish" t_T12_8] n_T12, sl_T12⟩)
    (z_list : PySem.W.nsIn K mainGlobals "list" = some none)
    (z_all : PySem.W.nsIn K mainGlobals "all" = some none)
    (z_tuple : PySem.W.nsIn K mainGlobals "tuple" = some none)
    (z_isinstance : PySem.W.nsIn K mainGlobals "isinstance" = some none)
    (z_range : PySem.W.nsIn K mainGlobals "range" = some none)
    (z_int : PySem.W.nsIn K mainGlobals "int" = some none)
    (z_len : PySem.W.nsIn K mainGlobals "len" = some none)
    (z_abs : PySem.W.nsIn K mainGlobals "abs" = some none)
    (hkeys : esD.toList.map keyTxt = kS.map some)
    (hlits : PySem.W.KeysLit w.params esD.toList)
    (hlow : (aD == sysModules) = false)
    : ∃ fd : FuncData, (∀ (s : Shared) (v : Value), BindsTo s fd ⟨[v], []⟩ [("script", v)]) ∧ ∀ base : Heap, K.In base → base.Ns mainGlobals mg → FnOk l.prog w K mg base CX0 6 fa fd ["script"] (spLaw K) := by
  have e := hfa.symm.trans (PySem.W.mg_of X G a_la)
  cases e
  have F_ro := fun_mk (st := s_rules_of) l_ro c_ro k_ro
  have F_ha := fun_mk (st := s__has_all) l_ha c_ha k_ha
  have F_wk := fun_mk (st := s__weakest_kind) l_wk c_wk k_wk
  have F_pe := fun_mk (st := s__law_pen) l_pe c_pe k_pe
  have F_dr := fun_mk (st := s__law_draw) l_dr c_dr k_dr
  have F_sh := fun_mk (st := s__law_shuffled) l_sh c_sh k_sh
  have F_ni := fun_mk (st := s__law_nine) l_ni c_ni k_ni
  have F_th := fun_mk (st := s__law_thirteen) l_th c_th k_th
  have F_cl := fun_mk (st := s__law_closure) l_cl c_cl k_cl
  have F_kw := fun_mk (st := s__law_kind_with) l_kw c_kw k_kw
  have F_la := fun_mk (st := s_law) l_la c_la k_la
  have F_li := fun_mk (st := s_Rules_listed) l_li c_li k_li
  have F_cd := fun_mk (st := s_Rules_closed) l_cd c_cd k_cd
  have F_co := fun_mk (st := s_Rules___contains__) l_co c_co k_co
  have F_eq := fun_mk (st := s_Rules___eq__) l_eq c_eq k_eq
  have F_kd := fun_mk (st := s_Rules_kind) l_kd c_kd k_kd
  have b_ro := F_ro.binds (ps := ["kind"]) fun _ _ _ _ _ _ us hl => match us, hl with | [_], _ => rfl
  have b_ha := F_ha.binds (ps := ["rules", "names"]) fun _ _ _ _ _ _ us hl => match us, hl with | [_, _], _ => rfl
  have b_wk := F_wk.binds (ps := ["names"]) fun _ _ _ _ _ _ us hl => match us, hl with | [_], _ => rfl
  have b_pe := F_pe.binds (ps := ["script"]) fun _ _ _ _ _ _ us hl => match us, hl with | [_], _ => rfl
  have b_dr := F_dr.binds (ps := ["pen", "span"]) fun _ _ _ _ _ _ us hl => match us, hl with | [_, _], _ => rfl
  have b_sh := F_sh.binds (ps := ["pen", "items"]) fun _ _ _ _ _ _ us hl => match us, hl with | [_, _], _ => rfl
  have b_ni := F_ni.binds (ps := ([] : List Str)) fun _ _ _ _ _ _ us hl => match us, hl with | [], _ => rfl
  have b_th := F_th.binds (ps := ([] : List Str)) fun _ _ _ _ _ _ us hl => match us, hl with | [], _ => rfl
  have b_cl := F_cl.binds (ps := ["names"]) fun _ _ _ _ _ _ us hl => match us, hl with | [_], _ => rfl
  have b_kw := F_kw.binds (ps := ["names"]) fun _ _ _ _ _ _ us hl => match us, hl with | [_], _ => rfl
  have b_li := F_li.binds (ps := ["self"]) fun _ _ _ _ _ _ us hl => match us, hl with | [_], _ => rfl
  have b_cd := F_cd.binds (ps := ["self"]) fun _ _ _ _ _ _ us hl => match us, hl with | [_], _ => rfl
  have b_co := F_co.binds (ps := ["self", "x"]) fun _ _ _ _ _ _ us hl => match us, hl with | [_, _], _ => rfl
  have b_eq := F_eq.binds (ps := ["self", "other"]) fun _ _ _ _ _ _ us hl => match us, hl with | [_, _], _ => rfl
  have b_kd := F_kd.binds (ps := ["self"]) fun _ _ _ _ _ _ us hl => match us, hl with | [_], _ => rfl
  have k13 : ∀ j ∈ K13, j < 13 := by decide
  have dI : ∀ k ∈ K13, KDct K w aD (kn k) (.ref ([T0, T1, T2, T3, T4, T5, T6, T7, T8, T9, T10, T11, T12].getD k T0)) := by
    intro k hk
    match k, hk with
    | 0, _ => exact ⟨esD, nD, _, lD, hlits, d0, rfl⟩
    | 1, _ => exact ⟨esD, nD, _, lD, hlits, d1, rfl⟩
    | 2, _ => exact ⟨esD, nD, _, lD, hlits, d2, rfl⟩
    | 3, _ => exact ⟨esD, nD, _, lD, hlits, d3, rfl⟩
    | 4, _ => exact ⟨esD, nD, _, lD, hlits, d4, rfl⟩
    | 5, _ => exact ⟨esD, nD, _, lD, hlits, d5, rfl⟩
    | 6, _ => exact ⟨esD, nD, _, lD, hlits, d6, rfl⟩
    | 7, _ => exact ⟨esD, nD, _, lD, hlits, d7, rfl⟩
    | 8, _ => exact ⟨esD, nD, _, lD, hlits, d8, rfl⟩
    | 9, _ => exact ⟨esD, nD, _, lD, hlits, d9, rfl⟩
    | 10, _ => exact ⟨esD, nD, _, lD, hlits, d10, rfl⟩
    | 11, _ => exact ⟨esD, nD, _, lD, hlits, d11, rfl⟩
    | 12, _ => exact ⟨esD, nD, _, lD, hlits, d12, rfl⟩
    | k + 13, hk => exact absurd (k13 _ hk) (by omega)
  have sT : ∀ k ∈ K13, ∀ H, SqT K H ([T0, T1, T2, T3, T4, T5, T6, T7, T8, T9, T10, T11, T12].getD k T0) ((rS (KR k)).map V.str) := by
    intro k hk H
    match k, hk with
    | 0, _ => exact .inr ⟨_, _, _, l_T0, rfl, rfl, (show 0 ≤ sizeLine by decide), (by repeat' (first | exact .nil | refine .cons ⟨_, rfl⟩ ?_))⟩
    | 1, _ => exact .inr ⟨_, _, _, l_T1, rfl, rfl, (show 1 ≤ sizeLine by decide), (by repeat' (first | exact .nil | refine .cons ⟨_, rfl⟩ ?_))⟩
    | 2, _ => exact .inr ⟨_, _, _, l_T2, rfl, rfl, (show 1 ≤ sizeLine by decide), (by repeat' (first | exact .nil | refine .cons ⟨_, rfl⟩ ?_))⟩
    | 3, _ => exact .inr ⟨_, _, _, l_T3, rfl, rfl, (show 2 ≤ sizeLine by decide), (by repeat' (first | exact .nil | refine .cons ⟨_, rfl⟩ ?_))⟩
    | 4, _ => exact .inr ⟨_, _, _, l_T4, rfl, rfl, (show 3 ≤ sizeLine by decide), (by repeat' (first | exact .nil | refine .cons ⟨_, rfl⟩ ?_))⟩
    | 5, _ => exact .inr ⟨_, _, _, l_T5, rfl, rfl, (show 2 ≤ sizeLine by decide), (by repeat' (first | exact .nil | refine .cons ⟨_, rfl⟩ ?_))⟩
    | 6, _ => exact .inr ⟨_, _, _, l_T6, rfl, rfl, (show 3 ≤ sizeLine by decide), (by repeat' (first | exact .nil | refine .cons ⟨_, rfl⟩ ?_))⟩
    | 7, _ => exact .inr ⟨_, _, _, l_T7, rfl, rfl, (show 3 ≤ sizeLine by decide), (by repeat' (first | exact .nil | refine .cons ⟨_, rfl⟩ ?_))⟩
    | 8, _ => exact .inr ⟨_, _, _, l_T8, rfl, rfl, (show 5 ≤ sizeLine by decide), (by repeat' (first | exact .nil | refine .cons ⟨_, rfl⟩ ?_))⟩
    | 9, _ => exact .inr ⟨_, _, _, l_T9, rfl, rfl, (show 3 ≤ sizeLine by decide), (by repeat' (first | exact .nil | refine .cons ⟨_, rfl⟩ ?_))⟩
    | 10, _ => exact .inr ⟨_, _, _, l_T10, rfl, rfl, (show 5 ≤ sizeLine by decide), (by repeat' (first | exact .nil | refine .cons ⟨_, rfl⟩ ?_))⟩
    | 11, _ => exact .inr ⟨_, _, _, l_T11, rfl, rfl, (show 5 ≤ sizeLine by decide), (by repeat' (first | exact .nil | refine .cons ⟨_, rfl⟩ ?_))⟩
    | 12, _ => exact .inr ⟨_, _, _, l_T12, rfl, rfl, (show 9 ≤ sizeLine by decide), (by repeat' (first | exact .nil | refine .cons ⟨_, rfl⟩ ?_))⟩
    | k + 13, hk => exact absurd (k13 _ hk) (by omega)
  have sR : ∀ H, SqT K H aR ((rS R9).map V.str) := fun H => .inr ⟨_, _, _, l_R, rfl, rfl, (show 9 ≤ sizeLine by decide), (by repeat' (first | exact .nil | refine .cons ⟨_, rfl⟩ ?_))⟩
  have TX : TxR K w mg aR aD C (fun k => [T0, T1, T2, T3, T4, T5, T6, T7, T8, T9, T10, T11, T12].getD k T0) :=
    ⟨PySem.W.mg_of X G aR_, PySem.W.mg_of X G aD_, PySem.W.mg_of X G aC, sR, ⟨⟨esD, nD, lD, hkeys⟩, hlow⟩, ⟨esD, nD, ⟨lD, hlits, hlow⟩⟩,
      dI, sT, ⟨pg, hd, po, sa⟩, nN, nK, PySem.W.mg_none_of X G z_list, PySem.W.mg_none_of X G z_all, PySem.W.mg_none_of X G z_tuple, PySem.W.mg_none_of X G z_isinstance⟩
  have F_in : FunD K "__init__" "Rules.__init__" (defArgs s_Rules___init__) (defBody s_Rules___init__) (defScope s_Rules___init__) [V.ref e_in] [] f_in _ :=
    ⟨⟨oc_in, od_in, .ref T_in, kV_in, dc_in, pm_in, an_in, cd_in, ct_in, sl_in, rfl, l_in, c_in, .inr ⟨by simp, T_in, _, [.ref e_in], nT, rfl, lT, rfl, .cons rfl .nil⟩, .inl rfl⟩, k_in⟩
  obtain ⟨ds, hds, b_in⟩ := FunD.binds1 (ps := ["self", "names"]) F_in 2 1 (by simp) rfl (fun T kV doc pm an cdv ct us its hu hi => match us, hu, its, hi with | [_, _], _, [_], _ => ⟨_, rfl, rfl⟩)
  cases hds
  refine ⟨PySem.W.fnOf "law" "law" (defArgs s_law) (defBody s_law) (defScope s_law) .none kV_la dc_la pm_la an_la cd_la ct_la, fun s v => .of_eq rfl, fun base _ _ => ?_⟩
  have D_ro : Dn l.prog w K mg base 1 "rules_of" ["kind"] spRulesOf := ⟨f_ro, _, PySem.W.mg_of X G a_ro, k_ro, b_ro, ok_rules_of F_ro TX⟩
  have D_ha : Dn l.prog w K mg base 1 "_has_all" ["rules", "names"] (spHas K) := ⟨f_ha, _, PySem.W.mg_of X G a_ha, k_ha, b_ha, ok_has_all F_ha TX⟩
  have D_wk : Dn l.prog w K mg base 2 "_weakest_kind" ["names"] (spWeak K) := ⟨f_wk, _, PySem.W.mg_of X G a_wk, k_wk, b_wk, ok_weakest F_wk TX D_ha⟩
  have D_pe : Dn l.prog w K mg base 1 "_law_pen" ["script"] (spPen K) := ⟨f_pe, _, PySem.W.mg_of X G a_pe, k_pe, b_pe, ok_pen F_pe (PySem.W.mg_none_of X G z_list)⟩
  have D_dr : Dn l.prog w K mg base 1 "_law_draw" ["pen", "span"] spDraw := ⟨f_dr, _, PySem.W.mg_of X G a_dr, k_dr, b_dr, ok_draw F_dr (PySem.W.mg_none_of X G z_int) (PySem.W.mg_none_of X G z_len) (PySem.W.mg_none_of X G z_abs)⟩
  have D_sh : Dn l.prog w K mg base 2 "_law_shuffled" ["pen", "items"] spShuf := ⟨f_sh, _, PySem.W.mg_of X G a_sh, k_sh, b_sh, ok_shuffled F_sh D_dr (PySem.W.mg_none_of X G z_len) (PySem.W.mg_none_of X G z_list)⟩
  have D_ni : Dn l.prog w K mg base 1 "_law_nine" [] spNine := ⟨f_ni, _, PySem.W.mg_of X G a_ni, k_ni, b_ni, ok_nine F_ni⟩
  have D_th : Dn l.prog w K mg base 2 "_law_thirteen" [] spThir := ⟨f_th, _, PySem.W.mg_of X G a_th, k_th, b_th, ok_thirteen F_th D_ni⟩
  have D_cl : Dn l.prog w K mg base 3 "_law_closure" ["names"] spClos := ⟨f_cl, _, PySem.W.mg_of X G a_cl, k_cl, b_cl, ok_closure F_cl D_ni D_th⟩
  have D_kw : Dn l.prog w K mg base 4 "_law_kind_with" ["names"] spKW := ⟨f_kw, _, PySem.W.mg_of X G a_kw, k_kw, b_kw, ok_kind_with F_kw D_th D_cl⟩
  have N : Kn l.prog w K mg base 3 C ["self", "names"] (spInit C) := ⟨f_in, _, ⟨mk, a_in, i_in, kC⟩, b_in, ok_init F_in TX D_wk⟩
  have M_li : Mn l.prog w K mg base 1 C "listed" ["self"] (spListed C) := ⟨f_li, _, ⟨a_li, i_li, k_li⟩, b_li, ok_listed F_li TX⟩
  have M_cd : Mn l.prog w K mg base 5 C "closed" ["self"] (spClosed C) := ⟨f_cd, _, ⟨a_cd, i_cd, k_cd⟩, b_cd, ok_closed F_cd TX D_ro N⟩
  have M_co : Mn l.prog w K mg base 1 C "__contains__" ["self", "x"] (spCont C) := ⟨f_co, _, ⟨a_co, i_co, k_co⟩, b_co, ok_contains F_co TX⟩
  have M_eq : Mn l.prog w K mg base 1 C "__eq__" ["self", "other"] (spEq C) := ⟨f_eq, _, ⟨a_eq, i_eq, k_eq⟩, b_eq, ok_eq F_eq TX ⟨TX.cl, iA, iN, iT, iM, iE⟩⟩
  have Mk : Pn l.prog w K mg base 1 C "kind" (spKind C) := ⟨pK, f_kd, _, ["self"], ⟨p1, p2, p3, _, p4⟩, b_kd, ok_kind F_kd TX⟩
  exact ok_law F_la TX nf (PySem.W.mg_none_of X G z_range) D_pe D_dr D_sh D_ni D_th D_cl D_kw N M_cd M_li Mk M_co M_eq
end Fp
open PySem PySem.W PyProof.Rows
set_option maxHeartbeats 0 in
theorem PySem.Challenge.cw_foldplans_k02_whole_closures_holds : PySem.Challenge.rw_foldplans_k02_whole_closures.Holds := by
  w_on; o_law; k_head; (case hw => w_witness2)
  k_fill
  refine L2.walk_of (l := PySem.Challenge.rw_foldplans_k02_whole_closures) (n := 63) (k := 6) (x := "script") (CX := fun _ => L2.CX0) (sp := fun w => Fp.spLaw _) rfl (by decide) rfl ⟨rfl, by decide, by decide⟩ (fun w h Y => PySem.W.kIn_of Y) ?F (fun _ _ a ns hl _ hS => ⟨a, ns, rfl, hS, hl, fun _ => rfl⟩) (fun _ _ _ _ _ h => h)
  case F =>
    intro w mg fa h KX G hmg
    refine' Fp.all_mk KX G hmg ?a_ro ?l_ro ?c_ro ?k_ro ?a_ha ?l_ha ?c_ha ?k_ha ?a_wk ?l_wk ?c_wk ?k_wk ?a_pe ?l_pe ?c_pe ?k_pe ?a_dr ?l_dr ?c_dr ?k_dr ?a_sh ?l_sh ?c_sh ?k_sh ?a_ni ?l_ni ?c_ni ?k_ni ?a_th ?l_th ?c_th ?k_th ?a_cl ?l_cl ?c_cl ?k_cl ?a_kw ?l_kw ?c_kw ?k_kw ?a_la ?l_la ?c_la ?k_la ?a_li ?i_li ?l_li ?c_li ?k_li ?a_cd ?i_cd ?l_cd ?c_cd ?k_cd ?a_co ?i_co ?l_co ?c_co ?k_co ?a_eq ?i_eq ?l_eq ?c_eq ?k_eq ?p1 ?p2 ?p3 ?p4 ?l_kd ?c_kd ?k_kd ?a_in ?i_in ?l_in ?c_in ?k_in ?lT ?aC ?mk ?kC ?pg ?hd ?po ?sa ?nN ?nK ?iA ?iN ?iT ?iM ?iE ?nf ?aR_ ?l_R ?aD_ ?lD ?d0 ?l_T0 ?d1 ?l_T1 ?d2 ?l_T2 ?d3 ?l_T3 ?d4 ?l_T4 ?d5 ?l_T5 ?d6 ?l_T6 ?d7 ?l_T7 ?d8 ?l_T8 ?d9 ?l_T9 ?d10 ?l_T10 ?d11 ?l_T11 ?d12 ?l_T12 ?z_list ?z_all ?z_tuple ?z_isinstance ?z_range ?z_int ?z_len ?z_abs ?hkeys ?hlits ?hlow
    (case aC => k_is); (case aR_ => k_is); (case aD_ => k_is); (case a_ro => k_is); (case l_ro => k_is); (case c_ro => k_is); (case k_ro => k_is); (case a_ha => k_is)
    (case l_ha => k_is); (case c_ha => k_is); (case k_ha => k_is); (case a_wk => k_is); (case l_wk => k_is); (case c_wk => k_is); (case k_wk => k_is); (case a_pe => k_is)
    (case l_pe => k_is); (case c_pe => k_is); (case k_pe => k_is); (case a_dr => k_is); (case l_dr => k_is); (case c_dr => k_is); (case k_dr => k_is); (case a_sh => k_is)
    (case l_sh => k_is); (case c_sh => k_is); (case k_sh => k_is); (case a_ni => k_is); (case l_ni => k_is); (case c_ni => k_is); (case k_ni => k_is); (case a_th => k_is)
    (case l_th => k_is); (case c_th => k_is); (case k_th => k_is); (case a_cl => k_is); (case l_cl => k_is); (case c_cl => k_is); (case k_cl => k_is); (case a_kw => k_is)
    (case l_kw => k_is); (case c_kw => k_is); (case k_kw => k_is); (case a_la => k_is); (case l_la => k_is); (case c_la => k_is); (case k_la => k_is); (case a_li => k_is)
    (case i_li => k_is); (case l_li => k_is); (case c_li => k_is); (case k_li => k_is); (case a_cd => k_is); (case i_cd => k_is); (case l_cd => k_is); (case c_cd => k_is)
    (case k_cd => k_is); (case a_co => k_is); (case i_co => k_is); (case l_co => k_is); (case c_co => k_is); (case k_co => k_is); (case a_eq => k_is); (case i_eq => k_is)
    (case l_eq => k_is); (case c_eq => k_is); (case k_eq => k_is); (case p1 => k_is); (case p2 => k_is); (case p3 => k_is); (case p4 => k_is); (case l_kd => k_is)
    (case c_kd => k_is); (case k_kd => k_is); (case a_in => k_is); (case i_in => k_is); (case l_in => k_is); (case c_in => k_is); (case k_in => k_is); (case lT => k_is)
    (case mk => k_is); (case kC => k_is); (case pg => k_is); (case hd => k_is); (case po => k_is); (case sa => k_is); (case nN => k_is); (case nK => k_is)
    (case iA => k_is); (case iN => k_is); (case iT => k_is); (case iM => k_is); (case iE => first | k_is | rfl | decide +kernel); (case nf => k_is); (case l_R => k_is); (case lD => k_is)
    (case d0 => k_is); (case l_T0 => k_is); (case d1 => k_is); (case l_T1 => k_is); (case d2 => k_is); (case l_T2 => k_is); (case d3 => k_is); (case l_T3 => k_is)
    (case d4 => k_is); (case l_T4 => k_is); (case d5 => k_is); (case l_T5 => k_is); (case d6 => k_is); (case l_T6 => k_is); (case d7 => k_is); (case l_T7 => k_is)
    (case d8 => k_is); (case l_T8 => k_is); (case d9 => k_is); (case l_T9 => k_is); (case d10 => k_is); (case l_T10 => k_is); (case d11 => k_is); (case l_T11 => k_is)
    (case d12 => k_is); (case l_T12 => k_is); (case z_list => k_is); (case z_all => k_is); (case z_tuple => k_is); (case z_isinstance => k_is); (case z_range => k_is); (case z_int => k_is)
    (case z_len => k_is); (case z_abs => k_is)
    (case hlow => decide)
    (case hkeys => rfl)
    (case hlits => repeat' (first | exact trivial | refine ⟨⟨_, _, rfl, rfl⟩, ?_⟩))
