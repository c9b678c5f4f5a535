import PyProof.Rows.All
import Wide.All
import OpenK.AllK
import Wide.FinOn
import HandS.ForMost
import HandS.Wide
import HandS.Conv
import HandS.Evl
import KE.KDictWalk
import HandS.SlotsOwn
import HandS.Property
import HandS.Defaults
import HandS.More
import HandS.Codes
import HandS.IsInst
import HandS.Style
import HandS.Lambda
import HandS.CallLocal
import PyProof.StrOps2
import HandS.TryMany
import HandS.ExcInit
import HandS.ExcIs
import HandS.ExcField
import KE.KExcSuper
import HandS.Iter
import PyProof.ReprRoads
import HandS.EndTab
import KE.KDictCopyH
import HandS.ClsMeth
import HandS.Star
import HandS.WordsExc
import KE.KNestM
import PySem.Challenge.RW_foldplans_k01_rules_made
set_option Elab.async false
set_option linter.all false
set_option maxRecDepth 100000
set_option maxHeartbeats 4000000
/-! what the laws of this program share -/
namespace Fp
open PySem PySem.Spec PyProof.Rows L2

/-! ### defs of the text, by name -/
def Dn (P : Program) (w : World) (K : PySem.W.Frag) (mg : Str → Option Value) (base : Heap) (k : Nat) (x : Str) (ps : List Str) (sp : Sp) : Prop :=
  ∃ f fd, mg x = some (.ref f) ∧ PySem.W.keepIn K (.ref f) = true ∧ Binds K fd ps [] ∧ FnOk P w K mg base CX0 k f fd ps sp
section
variable {X : Cx} {k : Nat} {x : Str} {ps : List Str} {sp : Sp} {p pos : Pos} {e : Expr} {es : List Expr} {t : TA}
theorem pd (D : Dn X.prog X.w X.K X.mg X.base k x ps sp) (hr : Room k X.A) (hg : Gl X x) (ha : PA X (e :: es) t) (hdb : (x == ("__debug__" : Str)) = false := by decide)
    (he : starEach (e :: es) X.env = (false, eval e X.env) :: starEach es X.env := by rfl) (hpl : (backTo pos (starEach es X.env)).any (·.1) = false := by rfl) :
    PE X (.Call (.Name x p) (e :: es) [] pos) (tCall sp [] E0 t) := by
  obtain ⟨f, fd, h1, h2, h3, h4⟩ := D
  exact pe_call h4 hr hg h1 h2 h3 .nil pass0 ha hdb he hpl
theorem pd0 (D : Dn X.prog X.w X.K X.mg X.base k x ps sp) (hr : Room k X.A) (hg : Gl X x) (hdb : (x == ("__debug__" : Str)) = false := by decide) :
    PE X (.Call (.Name x p) [] [] pos) (tCall sp [] E0 tNil) := by
  obtain ⟨f, fd, h1, h2, h3, h4⟩ := D
  exact pe_call0 h4 hr hg h1 h2 h3 .nil pass0 hdb
end

/-! ### heaps -/
/-- all but the object at p stays -/
def But (p : Addr) (H H' : Hp) : Prop := (∀ b o, H b = some o → b ≠ p → H' b = some o) ∧ (H p ≠ none → H' p ≠ none)
theorem But.refl (p : Addr) (H : Hp) : But p H H := ⟨fun _ _ h _ => h, fun h => h⟩
theorem But.trans {p : Addr} {H H1 H2 : Hp} (a : But p H H1) (b : But p H1 H2) : But p H H2 := ⟨fun c o h n => b.1 c o (a.1 c o h n) n, fun h => b.2 (a.2 h)⟩
theorem But.of {p : Addr} {H H' : Hp} (e : Same H H') : But p H H' := ⟨fun b o h _ => e b o h, fun h => by
  cases q : H p with
  | none => exact absurd q h
  | some o => rw [e p o q]; intro z; cases z⟩
theorem But.free {p l : Addr} {H H' : Hp} (e : But p H H') (h : H' l = none) : H l = none := by
  cases q : H l with
  | none => rfl
  | some o =>
    by_cases hl : l = p
    · subst hl
      exact absurd h (e.2 (by rw [q]; intro z; cases z))
    · rw [e.1 l o q hl] at h
      cases h
theorem But.new {p q : Addr} {H H' : Hp} {o : HO} (e : But p H H') (h : H' q = none) : But p H (upd H' q o) := e.trans (But.of fun b u hb => by
  rw [upd_ne (ne_of_none hb h)]
  exact hb)
theorem Same.new {H H' : Hp} {q : Addr} {o : HO} (e : Same H H') (h : H' q = none) : Same H (upd H' q o) := fun b u hb => by
  have h1 := e b u hb
  rw [upd_ne (ne_of_none h1 h)]
  exact h1
theorem same_new {H : Hp} {q : Addr} {o : HO} (h : H q = none) : Same H (upd H q o) := Same.new (Same.refl H) h
/-- an object that H does not know may change -/
theorem Same.mut {H H' : Hp} {p : Addr} {o : HO} (e : Same H H') (h : H p = none) : Same H (upd H' p o) := fun a u ha => by
  rw [upd_ne (ne_of_none ha h)]
  exact e a u ha
theorem But.mut {p q : Addr} {H H' : Hp} {o : HO} (e : But p H H') (h : H q = none) : But p H (upd H' q o) := ⟨fun a u ha hp => by
  rw [upd_ne (ne_of_none ha h)]
  exact e.1 a u ha hp, fun hn => by
  by_cases z : p = q
  · subst z; exact absurd h hn
  · rw [upd_ne z]; exact e.2 hn⟩

/-! ### rules with one way -/
section
variable {X : Cx}
def rIntI : List V → Hp → VK → Prop := fun xs H Q => ∃ i, xs = [.int i] ∧ Q (.int i) H
theorem call_intI : CallR X (.type "int") rIntI := fun pins s σ H xs us Q I r h => call_int1 pins s σ H xs us Q I r (.inl h)
def rIntB : List V → Hp → VK → Prop := fun xs H Q => ∃ k, xs = [.bl k] ∧ Q (.int (if k then 1 else 0)) H
theorem call_intB : CallR X (.type "int") rIntB := fun pins s σ H xs us Q I r h => call_int1 pins s σ H xs us Q I r (.inr h)
def rLenL (K : PySem.W.Frag) : List V → Hp → VK → Prop := fun xs H Q => ∃ p ys, xs = [.ref p] ∧ SqL K H p ys ∧ Q (.int ys.length) H
theorem call_lenL : CallR X (.builtin "len") (rLenL X.K) := fun pins s σ H xs us Q I r h => by
  obtain ⟨p, ys, e, h1, q⟩ := h
  exact call_len_seq pins s σ H xs us Q I r ⟨p, ys, e, .inl h1, q⟩
def rListL (K : PySem.W.Frag) : List V → Hp → VK → Prop := fun xs H Q => ∃ p ys, xs = [.ref p] ∧ SqL K H p ys ∧ ∀ l, H l = none → Q (.ref l) (upd H l (.lst ys))
theorem call_listL : CallR X (.type "list") (rListL X.K) := fun pins s σ H xs us Q I r h => by
  obtain ⟨p, ys, e, h1, q⟩ := h
  exact call_list_of pins s σ H xs us Q I r ⟨p, ys, e, .inl h1, q⟩
def rListT (K : PySem.W.Frag) : List V → Hp → VK → Prop := fun xs H Q => ∃ p ys, xs = [.ref p] ∧ SqT K H p ys ∧ ∀ l, H l = none → Q (.ref l) (upd H l (.lst ys))
theorem call_listT : CallR X (.type "list") (rListT X.K) := fun pins s σ H xs us Q I r h => by
  obtain ⟨p, ys, e, h1, q⟩ := h
  exact call_list_of pins s σ H xs us Q I r ⟨p, ys, e, .inr h1, q⟩
def rAbs : List V → Hp → VK → Prop := fun xs H Q => ∃ i, xs = [.int i] ∧ Q (.int (if i < 0 then -i else i)) H
theorem call_absI : CallR X (.builtin "abs") rAbs := call_abs
end
/-! ### dicts by written keys -/
theorem dg_s {H : Hp} {a : Addr} {kvs : List (Key × V)} {z : Str} {v : V} {R : V → Prop} (h : H a = some (.dK kvs)) (hv : valV kvs (Sum.inr z) = some v) (q : R v) : ∃ x, DGet H a (.str z) (some x) ∧ R x :=
  ⟨v, by rw [← hv]; exact DGet.k (k := Sum.inr z) h, q⟩
theorem dp_s {H : Hp} {a : Addr} {kvs : List (Key × V)} {z : Str} {v : V} {R : Hp → Prop} (h : H a = some (.dK kvs)) (hl : kvs.length < sizeLine) (q : R (upd H a (.dK (putK kvs (Sum.inr z) v)))) : ∃ H', DPut H a (.str z) v H' ∧ R H' :=
  ⟨_, DPut.k (k := Sum.inr z) h hl, q⟩
/-! ### data -/
theorem dp_ints (K : PySem.W.Frag) (H : Hp) : ∀ ns : List Int, DpAll K H (ns.map V.int) (ns.map PyData.int)
  | [] => .nil
  | n :: r => .cons (.int n) (dp_ints K H r)
theorem dp_strs (K : PySem.W.Frag) (H : Hp) : ∀ ns : List Str, DpAll K H (ns.map V.str) (ns.map PyData.str)
  | [] => .nil
  | n :: r => .cons (.str n) (dp_strs K H r)
/-- a list and a new empty list -/
theorem ne_nil {K : PySem.W.Frag} {H : Hp} {p q : Addr} {xs : List V} {ds : List PyData} {Q : VK} (hp : SqL K H p xs) (hd : DpAll K H xs ds) (hs : SeqAt.shaped (.list ds) = true) (hq : H q = some (.lst [])) (k : Q (.bl (!xs.isEmpty)) H) :
    rNeD K (.ref p) (.ref q) H Q := by
  refine ⟨.list ds, .list [], .lst hp hd, .lst (.inl (.inl hq)) .nil, hs, by decide, ?_⟩
  cases hd with
  | nil => exact k
  | cons a b => exact k
theorem eq_nil {K : PySem.W.Frag} {H : Hp} {p q : Addr} {xs : List V} {ds : List PyData} {Q : VK} (hp : SqL K H p xs) (hd : DpAll K H xs ds) (hs : SeqAt.shaped (.list ds) = true) (hq : H q = some (.lst [])) (k : Q (.bl xs.isEmpty) H) :
    rEqD K (.ref p) (.ref q) H Q := by
  refine ⟨.list ds, .list [], .lst hp hd, .lst (.inl (.inl hq)) .nil, hs, by decide, ?_⟩
  cases hd with
  | nil => exact k
  | cons a b => exact k
def Shp (n : Nat) (d : PyData) : Prop := d.canLay0 = true ∧ d.depth ≤ n
theorem shp_all {n : Nat} : ∀ {ds : List PyData}, (∀ d ∈ ds, Shp n d) → PyData.canLayAll0 ds = true ∧ PyData.depthAll ds ≤ n
  | [], _ => ⟨rfl, Nat.zero_le _⟩
  | d :: r, h => by
    obtain ⟨h1, h2⟩ := shp_all (ds := r) fun x hx => h x (List.mem_cons_of_mem _ hx)
    obtain ⟨h3, h4⟩ := h d List.mem_cons_self
    exact ⟨by show (PyData.canLay0 d && PyData.canLayAll0 r) = true; rw [h1, h3]; rfl, Nat.max_le.mpr ⟨h4, h2⟩⟩
theorem shp_lst {n : Nat} {ds : List PyData} (h : ∀ d ∈ ds, Shp n d) : Shp (n + 1) (.list ds) := ⟨(shp_all h).1, Nat.succ_le_succ (shp_all h).2⟩
theorem shp_tup {n : Nat} {ds : List PyData} (h : ∀ d ∈ ds, Shp n d) : Shp (n + 1) (.tuple ds) := ⟨(shp_all h).1, Nat.succ_le_succ (shp_all h).2⟩
theorem shp_int (i : Int) : Shp 0 (.int i) := ⟨rfl, Nat.le_refl _⟩
theorem shp_bool (b : Bool) : Shp 0 (.bool b) := ⟨rfl, Nat.le_refl _⟩
theorem shp_non : Shp 0 .none := ⟨rfl, Nat.le_refl _⟩
theorem Shp.mono {n m : Nat} {d : PyData} (h : Shp n d) (hm : n ≤ m) : Shp m d := ⟨h.1, Nat.le_trans h.2 hm⟩
theorem Shp.ok {n : Nat} {d : PyData} (h : Shp n d) (hn : n ≤ 64) : SeqAt.shaped d = true := by
  show (d.canLay0 && decide (d.depth ≤ 64)) = true
  rw [h.1, decide_eq_true (Nat.le_trans h.2 hn)]
  rfl
theorem shaped_ints (ns : List Int) : SeqAt.shaped (.list (ns.map PyData.int)) = true := (shp_lst (n := 0) fun d hd => by
  obtain ⟨i, _, rfl⟩ := List.mem_map.mp hd
  exact shp_int i).ok (by decide)
theorem ix_mod {ns : List Int} {t : Int} (h0 : ns ≠ []) : ∃ v, atI (ns.map V.int) (t % ((ns.map V.int).length : Nat)) = some (.int v) := by
  have hl : 0 < ns.length := by cases ns with
    | nil => exact absurd rfl h0
    | cons x r => exact Nat.succ_pos _
  have h1 : 0 ≤ t % (ns.length : Int) := Int.emod_nonneg _ (by omega)
  have h2 : t % (ns.length : Int) < ns.length := Int.emod_lt_of_pos _ (by omega)
  rw [List.length_map]
  obtain ⟨j, hj⟩ : ∃ j : Nat, t % (ns.length : Int) = j := ⟨(t % (ns.length : Int)).toNat, by omega⟩
  rw [hj]
  have hjl : j < ns.length := by omega
  exact ⟨ns[j], atI_nat (by rw [List.getElem?_map, List.getElem?_eq_getElem hjl]; rfl)⟩
/-! ### slices -/
theorem cut_to (xs : List V) (k : Nat) : cutV xs none (some (k : Int)) = xs.take k := by
  unfold cutV
  rw [HT.sIx_none, show HT.sIx xs.length xs.length (some (k : Int)) = min k xs.length from HT.sIx_nat _ _ k]
  show List.take (min k xs.length) xs = List.take k xs
  rcases Nat.le_total k xs.length with h | h
  · rw [Nat.min_eq_left h]
  · rw [Nat.min_eq_right h, List.take_of_length_le h, List.take_of_length_le (Nat.le_refl _)]

/-! ### the pen -/
theorem s_ct : ¬ (("cells" : Str) = "turn") := by decide
theorem s_lt : ¬ (("left" : Str) = "turn") := by decide
theorem s_cl : ¬ (("cells" : Str) = "left") := by decide
theorem s_tl : ¬ (("turn" : Str) = "left") := by decide
theorem k_ct : ¬ ((Sum.inr ("cells" : Str) : Key) = Sum.inr ("turn" : Str)) := by decide
theorem k_cl : ¬ ((Sum.inr ("cells" : Str) : Key) = Sum.inr ("left" : Str)) := by decide
theorem k_tl : ¬ ((Sum.inr ("turn" : Str) : Key) = Sum.inr ("left" : Str)) := by decide
def penK (c : Addr) (turn left : Int) : List (Key × V) := [(Sum.inr "cells", .ref c), (Sum.inr "turn", .int turn), (Sum.inr "left", .int left)]
theorem pen_cells (c : Addr) (turn left : Int) : valV (penK c turn left) (Sum.inr "cells") = some (.ref c) := by
  unfold penK
  exact valV_pos rfl
theorem pen_turn (c : Addr) (turn left : Int) : valV (penK c turn left) (Sum.inr "turn") = some (.int turn) := by
  unfold penK
  rw [valV_neg k_ct, valV_pos rfl]
theorem pen_left (c : Addr) (turn left : Int) : valV (penK c turn left) (Sum.inr "left") = some (.int left) := by
  unfold penK
  rw [valV_neg k_cl, valV_neg k_tl, valV_pos rfl]
theorem pen_putT (c : Addr) (turn left x : Int) : putK (penK c turn left) (Sum.inr ("turn" : Str)) (.int x) = penK c x left := by
  unfold putK penK
  simp [s_ct, s_lt]
theorem pen_putL (c : Addr) (turn left x : Int) : putK (penK c turn left) (Sum.inr ("left" : Str)) (.int x) = penK c turn x := by
  unfold putK penK
  simp [s_cl, s_tl]
theorem pen_len (c : Addr) (turn left : Int) : (penK c turn left).length < sizeLine := small1000 (by show 3 ≤ 1000; decide)
/-- the dict at p, the list of cells at c -/
structure PenOk (H : Hp) (p c : Addr) (t : Nat) : Prop where
  ex : ∃ (cells : List Int) (turn left : Int), H p = some (.dK (penK c turn left)) ∧
    H c = some (.lst (cells.map V.int)) ∧ cells.length ≤ 63 ∧ 0 ≤ turn ∧ turn ≤ t
theorem PenOk.mono {H : Hp} {p c : Addr} {t t' : Nat} (h : PenOk H p c t) (ht : t ≤ t') : PenOk H p c t' := by
  obtain ⟨cells, turn, left, h1, h2, h3, h4, h5⟩ := h.ex
  exact ⟨cells, turn, left, h1, h2, h3, h4, by omega⟩
theorem PenOk.dict {H : Hp} {p c : Addr} {t : Nat} (h : PenOk H p c t) : ∃ kvs, H p = some (.dK kvs) := by
  obtain ⟨cells, turn, left, h1, _⟩ := h.ex
  exact ⟨_, h1⟩
theorem PenOk.cells {H : Hp} {p c : Addr} {t : Nat} (h : PenOk H p c t) : ∃ xs, H c = some (.lst xs) := by
  obtain ⟨cells, turn, left, h1, h2, _⟩ := h.ex
  exact ⟨_, h2⟩
theorem PenOk.same {H H' : Hp} {p c : Addr} {t : Nat} (h : PenOk H p c t) (e : Same H H') : PenOk H' p c t := by
  obtain ⟨cells, turn, left, h1, h2, h3, h4, h5⟩ := h.ex
  exact ⟨cells, turn, left, e _ _ h1, e _ _ h2, h3, h4, h5⟩
theorem PenOk.mut {H : Hp} {p c l : Addr} {o : HO} {t : Nat} (h : PenOk H p c t) (h1 : l ≠ p) (h2 : l ≠ c) : PenOk (upd H l o) p c t := by
  obtain ⟨cells, turn, left, g1, g2, h3, h4, h5⟩ := h.ex
  exact ⟨cells, turn, left, by rw [upd_ne h1.symm]; exact g1, by rw [upd_ne h2.symm]; exact g2, h3, h4, h5⟩

theorem lg_small {n : Nat} (h : n < 1000000) : ((n : Nat) : Int).natAbs.log2 < 9000 := by
  have := PySem.Flt.log2_lt_of (k := 20) (by decide) (show ((n : Nat) : Int).natAbs < 2 ^ 20 by rw [Int.natAbs_natCast]; omega)
  omega
def spPen (K : PySem.W.Frag) : Sp := fun vs H Q _ => ∃ (a : Addr) (ns : List Int), vs = [.ref a] ∧ SqL K H a (ns.map V.int) ∧ ns.length ≤ 63 ∧
  ∀ H' p c, H p = none → Same H H' → PenOk H' p c 0 → Q (.ref p) H'
def spDraw : Sp := fun vs H Q _ => ∃ (p c : Addr) (span : Int) (t : Nat), vs = [.ref p, .int span] ∧ PenOk H p c t ∧ t ≤ 1000000000 ∧ 0 < span ∧ span.natAbs.log2 < 9000 ∧
  ∀ (r : Int) H', 0 ≤ r → r < span → PenOk H' p c (t + 1) → But p H H' → Q (.int r) H'
end Fp

/-! the keys of a dict that the top has written, walked -/
namespace Fp
open PySem PySem.Spec PyProof.Rows L2
def keyTxt (e : DictEntry) : Option Str := match e.key with
  | .str x _ => some x
  | _ => none
/-- the dict at d stands in the written part, its keys are the texts zs -/
structure KKeys (K : PySem.W.Frag) (d : Addr) (zs : List Str) : Prop where
  ex : ∃ (es : Array DictEntry) (n : Nat), K.lookup d = some ⟨.type "dict", none, .dict es n, #[]⟩ ∧ es.toList.map keyTxt = zs.map some
  low : (d == sysModules) = false
theorem KKeys.at {K : PySem.W.Frag} {d : Addr} {zs : List Str} {es : Array DictEntry} {n : Nat} (h : es.toList.map keyTxt = zs.map some) : es.size = zs.length ∧ ∀ (i : Nat) (hi : i < es.size), ∃ z t, zs[i]? = some z ∧ es[i].key = .str z t := by
  have hl : es.size = zs.length := by
    have := congrArg List.length h
    rw [List.length_map, List.length_map] at this
    simpa using this
  refine ⟨hl, fun i hi => ?_⟩
  have hz : i < zs.length := hl ▸ hi
  have e := congrArg (fun l => l[i]?) h
  simp only [List.getElem?_map] at e
  rw [show es.toList[i]? = some es[i] by simp [hi], List.getElem?_eq_getElem hz] at e
  have e2 : keyTxt es[i] = some zs[i] := Option.some.inj e
  refine ⟨zs[i], ?_⟩
  unfold keyTxt at e2
  split at e2
  · rename_i x t hk
    exact ⟨t, List.getElem?_eq_getElem hz, by rw [hk, Option.some.inj e2]⟩
  · cases e2
/-- the keys in their order -/
def ItKK (zs : List Str) : It := ⟨fun i _ => i < zs.length, fun i H x H' => H' = H ∧ ∃ z, zs[i]? = some z ∧ x = .str z, fun i _ => zs.length ≤ i⟩
section
variable {P : Program} {w : World} {K : PySem.W.Frag} {tg : Expr}
theorem turn_kk {d it : Addr} {zs : List Str} {es : Array DictEntry} {n : Nat} (hl : K.lookup d = some ⟨.type "dict", none, .dict es n, #[]⟩) (hk : es.toList.map keyTxt = zs.map some) :
    Turn P w K tg (ItKK zs) [it] it (fun i h => h.IsKeyIter it d i es.size n) where
  mem := by simp
  obj := fun i h st b hb => by
    have e : b = it := by simpa using hb
    subst e
    obtain ⟨oi, e, c, dd⟩ := st
    exact ⟨oi, e, fun v z => by rw [dd] at z; cases z⟩
  keep := fun i h h' st k => st.at fun oi e => k it (by simp) oi e
  item := by
    intro X hP hw hK hc i pins s σ H E I hf st hg
    subst hP hw hK
    obtain ⟨f0, f1, f2, f3, f4, f5⟩ := hf it (by simp)
    obtain ⟨hs, hz⟩ := KKeys.at (K := X.K) (d := d) (n := n) hk
    have hi : i < es.size := by
      have : i < zs.length := hg
      omega
    obtain ⟨z, t, e1, e2⟩ := hz i hi
    have raw : s.heap.DictRaw d es n := ⟨_, I.kIn d _ hl, ⟨rfl, rfl, rfl⟩, rfl⟩
    refine wpAny_pyNext_keys_item_raw st raw hi fun h' st' sb => ?_
    have I1 : Inv X pins σ H { s with heap := h' } := I.turned (t' := s.toks) (fun b ob hb e => (sb.2 b hb).trans e) f0 f1 f3 f4 f5
    obtain ⟨oi, e, c, dd⟩ := id st'
    exact ⟨_, rfl, go_of (s := { s with heap := h' }) e c dd (by decide) ⟨.str z, H, I1, ⟨t, e2⟩, ⟨rfl, z, e1, rfl⟩, st', fun b hb => (hf b hb).1⟩⟩
  done := by
    intro X hP hw hK hc i pins s σ H E I hf st hg
    subst hP hw hK
    obtain ⟨f0, f1, f2, f3, f4, f5⟩ := hf it (by simp)
    obtain ⟨hs, hz⟩ := KKeys.at (K := X.K) (d := d) (n := n) hk
    have raw : s.heap.DictRaw d es n := ⟨_, I.kIn d _ hl, ⟨rfl, rfl, rfl⟩, rfl⟩
    have hi : es.size ≤ i := by
      have : zs.length ≤ i := hg
      omega
    exact wpAny_pyNext_keys_end_raw (I.ok.hd hc) st raw hi fun h' eb => ⟨rfl, I.turned (t' := s.toks) (fun b o hb e => eb b o hb e) f0 f1 f3 f4 f5⟩
  self := fun _ _ _ _ _ st h => wpAny_pyIter_keyiter st h
def iKK (K : PySem.W.Frag) (td : TE) : TI := fun σ H R => td σ H fun x H1 => ∃ d zs, x = .ref d ∧ KKeys K d zs ∧ R (ItKK zs) H1
theorem pi_kk {X : Cx} {e : Expr} {td : TE} (he : PE X e td) : PI X tg e (iKK X.K td) := by
  refine ⟨fun pins s σ H R I h => ?_⟩
  refine thn (he.run pins s σ H _ I h) fun u s1 ⟨x, H1, I1, rx, d, zs, ex, ⟨⟨es, n, hl, hk⟩, low⟩, q⟩ => ?_
  subst ex
  obtain rfl : u = Value.ref d := rx
  have raw : s1.heap.DictRaw d es n := ⟨_, I1.kIn d _ hl, ⟨rfl, rfl, rfl⟩, rfl⟩
  exact wpAny_pyIter_dict_raw low raw (pi_one (tk := s1.toks) I1 _ (turn_kk hl hk) ⟨_, Heap.get?_push_size _ rfl, rfl, rfl⟩ q)
end
end Fp

/-! operators and methods that a class of the text defines -/
namespace Fp
open PySem PySem.Spec PyProof.Rows L2
/-- the def m of the class at C -/
def Mn (P : Program) (w : World) (K : PySem.W.Frag) (mg : Str → Option Value) (base : Heap) (k : Nat) (C : Addr) (m : Str) (ps : List Str) (sp : Sp) : Prop :=
  ∃ g fd, Meth K C m g ∧ Binds K fd ps [] ∧ FnOk P w K mg base CX0 k g fd ps sp
section
variable {X : Cx} {k : Nat} {C : Addr} {m : Str} {ps : List Str} {sp : Sp}
theorem pm {pl : Sem Bool} {o e : Expr} {es : List Expr} {pos apos : Pos} {ta : TE} {t : TA} (c : Cls X.K C) (M : Mn X.prog X.w X.K X.mg X.base k C m ps sp) (hr : Room k X.A) (he : PE X o ta) (ha : PA X (e :: es) t)
    (hst : starEach (e :: es) X.env = (false, eval e X.env) :: starEach es X.env := by rfl) (hpl : (backTo pos (starEach es X.env)).any (·.1) = false := by rfl)
    (ht : eval (.Call (.Attribute o m apos) (e :: es) [] pos) X.env = (do
      let ov ← eval o X.env
      standAt apos.atName
      let (f, first) ← holding [ov] (getMethod ov m pl)
      callWith pos f first (backTo pos (starEach (e :: es) X.env)) (backToKw pos (keywordEach [] X.env))) := by rfl) :
    PE X (.Call (.Attribute o m apos) (e :: es) [] pos) (tMeth C m sp [] E0 ta t) := by
  obtain ⟨g, fd, h1, h2, h3⟩ := M
  exact pe_meth he c h1 h3 hr h2 .nil pass0 ha hst hpl ht
theorem pm0 {pl : Sem Bool} {o : Expr} {pos apos : Pos} {ta : TE} (c : Cls X.K C) (M : Mn X.prog X.w X.K X.mg X.base k C m ps sp) (hr : Room k X.A) (he : PE X o ta)
    (ht : eval (.Call (.Attribute o m apos) [] [] pos) X.env = (do
      let ov ← eval o X.env
      standAt apos.atName
      let (f, first) ← holding [ov] (getMethod ov m pl)
      callWith pos f first (backTo pos (starEach [] X.env)) (backToKw pos (keywordEach [] X.env))) := by rfl) :
    PE X (.Call (.Attribute o m apos) [] [] pos) (tMeth C m sp [] E0 ta tNil) := by
  obtain ⟨g, fd, h1, h2, h3⟩ := M
  exact pe_meth0 he c h1 h3 hr h2 .nil pass0 ht
/-- the class x of the text, made by its __init__ -/
def Kn (P : Program) (w : World) (K : PySem.W.Frag) (mg : Str → Option Value) (base : Heap) (k : Nat) (C : Addr) (ps : List Str) (sp : Sp) : Prop :=
  ∃ g fd, Mk K C g ∧ Binds K fd ps [] ∧ FnOk P w K mg base CX0 k g fd ps sp
theorem pk {x : Str} {e : Expr} {es : List Expr} {p pos : Pos} {t : TA} (M : Kn X.prog X.w X.K X.mg X.base k C ps sp) (hr : Room (k + 1) X.A) (hg : Gl X x) (hm : X.mg x = some (.ref C)) (ha : PA X (e :: es) t)
    (hdb : (x == ("__debug__" : Str)) = false := by decide) (he : starEach (e :: es) X.env = (false, eval e X.env) :: starEach es X.env := by rfl) (hpl : (backTo pos (starEach es X.env)).any (·.1) = false := by rfl) :
    PE X (.Call (.Name x p) (e :: es) [] pos) (tMake C sp [] E0 t) := by
  obtain ⟨g, fd, h1, h2, h3⟩ := M
  exact pe_make h1 h3 hr hg hm h2 .nil pass0 ha hdb he hpl
/-- a property of the class at C -/
def Pn (P : Program) (w : World) (K : PySem.W.Frag) (mg : Str → Option Value) (base : Heap) (k : Nat) (C : Addr) (f : Str) (sp : Sp) : Prop :=
  ∃ p g fd ps, PropOf K C f p g ∧ Binds K fd ps [] ∧ FnOk P w K mg base CX0 k g fd ps sp
theorem pq {f : Str} {e : Expr} {pos : Pos} {ta : TE} (c : Cls X.K C) (M : Pn X.prog X.w X.K X.mg X.base k C f sp) (hr : Room (k + 1) X.A) (he : PE X e ta) (hab : attributeBase e f X.env (eval e X.env) = eval e X.env := by rfl) :
    PE X (.Attribute e f pos) (tProp C sp [] E0 ta) := by
  obtain ⟨p, g, fd, ps, h1, h2, h3⟩ := M
  exact pe_prop he c h1 h3 hr h2 .nil pass0 hab
theorem inst_of {pins : List (Addr × Obj)} {σ : L2.St} {H : Hp} {s : Shared} {a dx : Addr} {fs : List (Str × V)} (I : Inv X pins σ H s) (e : H a = some (.ins C dx fs)) : ∃ od, PySem.W.InstAt s.heap a (PySem.W.instObj C dx) C (some od) := by
  obtain ⟨mA, O, _⟩ := ins_get I.hok e
  obtain ⟨od, J, _⟩ := O.look
  exact ⟨od, J⟩
/-- v in x, x an instance of the class at C -/
def rOwnIn (C : Addr) (neg : Bool) (sp : Sp) : R2 := fun x y H Q => ∃ a dx fs, y = .ref a ∧ H a = some (.ins C dx fs) ∧ sp [.ref a, x] H (fun v H' => ∃ b, v = .bl b ∧ Q (.bl (if neg then !b else b)) H') E0
theorem op_ownIn (M : Mn X.prog X.w X.K X.mg X.base k C "__contains__" ps sp) (hr : Room k X.A) : OpR X (compareOp .In) (rOwnIn C false sp) := by
  intro pins s σ H x y v u Q I rx ry h
  obtain ⟨a, dx, fs, rfl, ha, q⟩ := h
  obtain rfl : u = Value.ref a := ry
  obtain ⟨g, fd, h1, h2, h3⟩ := M
  obtain ⟨od, J⟩ := inst_of I ha
  obtain ⟨m, hF⟩ := I.fr
  refine PySem.W.in_K hF I.ok.mod.kin J h1.at_ h1.fn ?_
  refine wpAny_mono (run_fn (us := [.ref a, v]) (vs := [.ref a, x]) (dvs := []) h3 hr h2 .nil pass0 I (.cons rfl (.cons rx .nil)) q) (fun w s' z => ?_) fun _ _ x => x
  obtain ⟨z', H', I', rz, b, rfl, qz⟩ := z
  cases rz
  exact wpAny_truthy_bool ⟨.bl b, H', I', rfl, qz⟩
theorem op_ownNotIn (M : Mn X.prog X.w X.K X.mg X.base k C "__contains__" ps sp) (hr : Room k X.A) : OpR X (compareOp .NotIn) (rOwnIn C true sp) := by
  intro pins s σ H x y v u Q I rx ry h
  obtain ⟨a, dx, fs, rfl, ha, q⟩ := h
  obtain rfl : u = Value.ref a := ry
  obtain ⟨g, fd, h1, h2, h3⟩ := M
  obtain ⟨od, J⟩ := inst_of I ha
  obtain ⟨m, hF⟩ := I.fr
  refine PySem.W.notIn_K hF I.ok.mod.kin J h1.at_ h1.fn ?_
  refine wpAny_mono (run_fn (us := [.ref a, v]) (vs := [.ref a, x]) (dvs := []) h3 hr h2 .nil pass0 I (.cons rfl (.cons rx .nil)) q) (fun w s' z => ?_) fun _ _ x => x
  obtain ⟨z', H', I', rz, b, rfl, qz⟩ := z
  cases rz
  exact wpAny_truthy_bool ⟨.bl (!b), H', I', rfl, qz⟩
/-- x op y, both instances of the class at C, a comparison -/
def rOwn2 (C : Addr) (sp : Sp) : R2 := fun x y H Q => ∃ a dx fs b dy gs, x = .ref a ∧ y = .ref b ∧ H a = some (.ins C dx fs) ∧ H b = some (.ins C dy gs) ∧ sp [.ref a, .ref b] H Q E0
theorem op_ownCmp {op : CmpOp} (hop : ∀ a b, compareOp op a b = richCompare op a b) (hn : PySem.W.notFirst X.K C (.ref C) = true) (M : Mn X.prog X.w X.K X.mg X.base k C (cmpInfo op).2.1 ps sp) (hr : Room k X.A) : OpR X (compareOp op) (rOwn2 C sp) := by
  intro pins s σ H x y v u Q I rx ry h
  obtain ⟨a, dx, fs, b, dy, gs, rfl, rfl, ha, hb, q⟩ := h
  obtain rfl : v = Value.ref a := rx
  obtain rfl : u = Value.ref b := ry
  obtain ⟨g, fd, h1, h2, h3⟩ := M
  obtain ⟨od, J⟩ := inst_of I ha
  obtain ⟨od', J'⟩ := inst_of I hb
  obtain ⟨m, hF⟩ := I.fr
  rw [hop]
  refine PySem.W.cmp_K (op := op) (tb := .ref C) hr.units0 hF I.ok.mod.kin J J'.type hn h1.at_ h1.fn ?_
  refine wpAny_mono (run_fn (us := [.ref a, .ref b]) (vs := [.ref a, .ref b]) (dvs := []) h3 hr h2 .nil pass0 I (.cons rfl (.cons rfl .nil)) q) (fun w s' z => ?_) fun _ _ x => x
  obtain ⟨z', H', I', rz, qz⟩ := z
  exact SlX.cmpback rz ⟨z', H', I', rz, qz⟩
theorem op_ownBin {op : Operator} (hc : PySem.W.selfFirst X.K C = true) (M : Mn X.prog X.w X.K X.mg X.base k C (PySem.dunder op.info.2) ps sp) (hr : Room k X.A) : OpR X (binaryOp op) (rOwn2 C sp) := by
  intro pins s σ H x y v u Q I rx ry h
  obtain ⟨a, dx, fs, b, dy, gs, rfl, rfl, ha, hb, q⟩ := h
  obtain rfl : v = Value.ref a := rx
  obtain rfl : u = Value.ref b := ry
  obtain ⟨g, fd, h1, h2, h3⟩ := M
  obtain ⟨od, J⟩ := inst_of I ha
  obtain ⟨od', J'⟩ := inst_of I hb
  obtain ⟨m, hF⟩ := I.fr
  refine PySem.W.binop_K (op := op) hF I.ok.mod.kin J J'.type hc h1.at_ h1.fn ?_
  refine wpAny_mono (run_fn (us := [.ref a, .ref b]) (vs := [.ref a, .ref b]) (dvs := []) h3 hr h2 .nil pass0 I (.cons rfl (.cons rfl .nil)) q) (fun w s' z => ?_) fun _ _ x => x
  obtain ⟨z', H', I', rz, qz⟩ := z
  exact SlX.cmpback rz ⟨z', H', I', rz, qz⟩
end
end Fp

/-! loops and comprehensions over a row of values -/
namespace Fp
open PySem PySem.Spec PyProof.Rows L2
/-- the iterator gives the values xs, one a turn, while S holds of the heap -/
structure JSeq (J : It) (xs : List V) (S : Hp → Prop) : Prop where
  go : ∀ i H, S H → i < xs.length → J.go i H
  yld : ∀ i H x H', S H → i < xs.length → J.yld i H x H' → H' = H ∧ xs[i]? = some x
  stop : ∀ i H, S H → xs.length ≤ i → J.stop i H
  same : ∀ H H', S H → Same H H' → S H'
theorem jseq_list (K : PySem.W.Frag) (a : Addr) (xs : List V) : JSeq (Itl K a) xs (fun H => SqL K H a xs) :=
  ⟨fun i H h hi => ⟨xs, xs[i], h, List.getElem?_eq_getElem hi⟩, fun i H x H' h _ y => ⟨y.1, y.2 xs h⟩, fun i H h hi => ⟨xs, h, hi⟩, fun H H' h e => e.seq h⟩
theorem same_tup {K : PySem.W.Frag} {H H' : Hp} {a : Addr} {xs : List V} (e : Same H H') (h : SqT K H a xs) : SqT K H' a xs := by
  rcases h with (h | ⟨o, h⟩) | h
  · exact .inl (.inl (e _ _ h))
  · exact .inl (.inr ⟨o, e _ _ h⟩)
  · exact .inr h
theorem jseq_tup (K : PySem.W.Frag) (a : Addr) (xs : List V) : JSeq (Itt K a) xs (fun H => SqT K H a xs) :=
  ⟨fun i H h hi => ⟨xs, xs[i], h, List.getElem?_eq_getElem hi⟩, fun i H x H' h _ y => ⟨y.1, y.2 xs h⟩, fun i H h hi => ⟨xs, h, hi⟩, fun H H' h e => same_tup e h⟩
theorem jseq_kk (zs : List Str) : JSeq (ItKK zs) (zs.map V.str) (fun _ => True) :=
  ⟨fun i H h hi => by rw [List.length_map] at hi; exact hi, fun i H x H' h _ y => by
    obtain ⟨e, z, h1, rfl⟩ := y
    exact ⟨e, by rw [List.getElem?_map, h1]; rfl⟩, fun i H h hi => by rw [List.length_map] at hi; exact hi, fun _ _ h _ => h⟩
def rngV (lo : Int) (n : Nat) : List V := (List.range n).map fun (i : Nat) => V.int (lo + i)
theorem rngV_len (lo : Int) (n : Nat) : (rngV lo n).length = n := by
  unfold rngV
  rw [List.length_map, List.length_range]
theorem rngV_at {lo : Int} {n i : Nat} (h : i < n) : (rngV lo n)[i]? = some (.int (lo + i)) := by
  unfold rngV
  rw [List.getElem?_map, List.getElem?_range h]
  rfl
theorem jseq_rng (lo : Int) (n : Nat) : JSeq (Itr lo n) (rngV lo n) (fun _ => True) :=
  ⟨fun i H _ hi => by rw [rngV_len] at hi; exact hi, fun i H x H' _ hi y => by
    obtain ⟨h1, h2⟩ := y
    rw [rngV_len] at hi
    exact ⟨h1, by rw [rngV_at hi, h2]⟩, fun i H _ hi => by rw [rngV_len] at hi; exact hi, fun _ _ h _ => h⟩

/-! ### the walk, once the iterator is there -/
def LcG (J : It) (g : TG) (tt : TT) (te : TE) (vs : List Nat) (σ : L2.St) (H : Hp) (Q : VK) : Prop := tLc (fun _ H R => R J H) g tt te vs σ H Q
def ForG (J : It) (g : TG) (tb : TS) (D : Ends) (σ : L2.St) (H : Hp) : Prop := tFor (fun _ H R => R J H) g tb D σ H
section
variable {K : PySem.W.Frag} {tl : TE} {ta : TA} {g : TG} {tt : TT} {te : TE} {tb : TS} {D : Ends} {vs : List Nat} {σ : L2.St} {H : Hp} {Q : VK}
theorem lc_iL : tLc (iList K tl) g tt te vs σ H Q = tl σ H (fun x H1 => ∃ a, x = .ref a ∧ (∃ xs, SqL K H1 a xs) ∧ LcG (Itl K a) g tt te vs σ H1 Q) := rfl
theorem lc_iT : tLc (iTup K tl) g tt te vs σ H Q = tl σ H (fun x H1 => ∃ a, x = .ref a ∧ (∃ xs, SqT K H1 a xs) ∧ LcG (Itt K a) g tt te vs σ H1 Q) := rfl
theorem lc_iK : tLc (iKK K tl) g tt te vs σ H Q = tl σ H (fun x H1 => ∃ d zs, x = .ref d ∧ KKeys K d zs ∧ LcG (ItKK zs) g tt te vs σ H1 Q) := rfl
theorem lc_iR : tLc (iRng1 ta) g tt te vs σ H Q = ta σ H (fun zs H1 => ∃ j : Int, zs = [.int j] ∧ -(2 ^ 62) ≤ j ∧ j < 2 ^ 62 ∧ LcG (Itr 0 j.toNat) g tt te vs σ H1 Q) := rfl
theorem fr_iL : tFor (iList K tl) g tb D σ H = tl σ H (fun x H1 => ∃ a, x = .ref a ∧ (∃ xs, SqL K H1 a xs) ∧ ForG (Itl K a) g tb D σ H1) := rfl
theorem fr_iT : tFor (iTup K tl) g tb D σ H = tl σ H (fun x H1 => ∃ a, x = .ref a ∧ (∃ xs, SqT K H1 a xs) ∧ ForG (Itt K a) g tb D σ H1) := rfl
theorem fr_iR : tFor (iRng1 ta) g tb D σ H = ta σ H (fun zs H1 => ∃ j : Int, zs = [.int j] ∧ -(2 ^ 62) ≤ j ∧ j < 2 ^ 62 ∧ ForG (Itr 0 j.toNat) g tb D σ H1) := rfl
variable {J : It} {xs : List V} {S : Hp → Prop}
/-- a comprehension by a word P of: the turn, the list so far (it stands at D), the heap -/
theorem lcg_by (hJ : JSeq J xs S) (P : Addr → Nat → List V → Hp → Prop) (h0 : ∀ D, H D = none → P D 0 [] (upd H D (.lst [])))
    (hP : ∀ D i acc H', H D = none → i ≤ xs.length → P D i acc H' → S H')
    (hs : ∀ D i x acc H', H D = none → xs[i]? = some x → P D i acc H' → g x (wipe σ vs) H' fun σ2 H2 => wipe σ2 vs = wipe σ vs ∧ tt σ2 H2 fun b H3 =>
      if b = true then te σ2 H3 fun y H4 => ∃ acc, H4 D = some (.lst acc) ∧ acc.length < sizeLine ∧ (∃ acc', P D (i + 1) acc' (upd H4 D (.lst (acc ++ [y])))) else ∃ acc', P D (i + 1) acc' H3)
    (hd : ∀ D acc H', H D = none → P D xs.length acc H' → Q (.ref D) H') : LcG J g tt te vs σ H Q := by
  intro D hD
  refine ⟨fun i m H' => m = xs.length - i ∧ i ≤ xs.length ∧ ∃ acc, P D i acc H', ⟨xs.length, by simp, Nat.zero_le _, [], h0 D hD⟩, ?_⟩
  rintro i m H' ⟨rfl, hi, acc, p⟩
  have hS := hP D i acc H' hD hi p
  by_cases hlt : i < xs.length
  · refine .inr ⟨hJ.go i H' hS hlt, fun H'' => ∃ acc, P D (i + 1) acc H'', fun H'' ⟨acc', p'⟩ => ⟨xs.length - (i + 1), by omega, rfl, hlt, acc', p'⟩, fun x H'' y => ?_⟩
    obtain ⟨rfl, hx⟩ := hJ.yld i H' x H'' hS hlt y
    exact hs D i x acc _ hD hx p
  · have e : i = xs.length := by omega
    subst e
    exact .inl ⟨hJ.stop _ H' hS (Nat.le_refl _), hd D acc H' hD p⟩
theorem filter_map_take {fb : V → Bool} {fv : V → V} {i : Nat} {x : V} (hx : xs[i]? = some x) :
    ((xs.take (i + 1)).filter fb).map fv = ((xs.take i).filter fb).map fv ++ (if fb x = true then [fv x] else []) := by
  rw [List.take_add_one, hx, List.filter_append, List.map_append]
  cases h : fb x with
  | true => simp [h]
  | false => simp [h]
/-- a comprehension whose tests and items change nothing that stands -/
theorem lcg_pure (hJ : JSeq J xs S) (hS : S H) (hz : xs.length < 100000) (fb : V → Bool) (fv : V → V)
    (hs : ∀ x, x ∈ xs → ∀ H', Same H H' → ∀ (R1 : V → Hp → Prop) (R0 : Hp → Prop), (fb x = true → ∀ H'', Same H' H'' → R1 (fv x) H'') → (fb x = false → ∀ H'', Same H' H'' → R0 H'') →
      g x (wipe σ vs) H' fun σ2 H2 => wipe σ2 vs = wipe σ vs ∧ tt σ2 H2 fun b H3 => if b = true then te σ2 H3 R1 else R0 H3)
    (hd : ∀ D H', H D = none → Same H H' → H' D = some (.lst ((xs.filter fb).map fv)) → Q (.ref D) H') : LcG J g tt te vs σ H Q := by
  refine lcg_by hJ (fun D i acc H' => Same H H' ∧ H' D = some (.lst acc) ∧ acc = ((xs.take i).filter fb).map fv) (fun D hD => ⟨same_new hD, upd_same, rfl⟩)
    (fun D i acc H' _ _ p => hJ.same _ _ hS p.1) (fun D i x acc H' hD hx p => ?_) (fun D acc H' hD p => ?_)
  · obtain ⟨p1, p2, rfl⟩ := p
    have hi : i < xs.length := (List.getElem?_eq_some_iff.mp hx).1
    refine hs x (List.mem_of_getElem? hx) H' p1 _ _ (fun hb H'' e => ?_) (fun hb H'' e => ?_)
    · refine ⟨((xs.take i).filter fb).map fv, e _ _ p2, ?_, _, Same.mut (p1.trans e) hD, upd_same, ?_⟩
      · refine Nat.lt_of_lt_of_le (Nat.lt_of_le_of_lt (?_ : _ ≤ xs.length) hz) (by decide)
        rw [List.length_map]
        exact Nat.le_trans (List.length_filter_le _ _) (by rw [List.length_take]; exact Nat.min_le_right _ _)
      · rw [filter_map_take hx, if_pos hb]
    · refine ⟨_, p1.trans e, e _ _ p2, ?_⟩
      rw [filter_map_take hx, if_neg (by rw [hb]; decide), List.append_nil]
  · obtain ⟨p1, p2, rfl⟩ := p
    rw [List.take_length] at p2
    exact hd D H' hD p1 p2
/-- a for by a word P of: the turn, the slots, the heap -/
theorem forg_by (hJ : JSeq J xs S) (P : Nat → L2.St → Hp → Prop) (h0 : P 0 σ H) (hP : ∀ i σ' H', i ≤ xs.length → P i σ' H' → S H')
    (hs : ∀ i x σ' H', xs[i]? = some x → P i σ' H' → g x σ' H' fun σ2 H2 => tb { D with nx := P (i + 1), ct := P (i + 1), bk := D.nx } σ2 H2) (hd : ∀ σ' H', P xs.length σ' H' → D.nx σ' H') : ForG J g tb D σ H := by
  refine ⟨fun i m σ' H' => m = xs.length - i ∧ i ≤ xs.length ∧ P i σ' H', ⟨xs.length, by simp, Nat.zero_le _, h0⟩, ?_⟩
  rintro i m σ' H' ⟨rfl, hi, p⟩
  have hS := hP i σ' H' hi p
  by_cases hlt : i < xs.length
  · refine .inr ⟨hJ.go i H' hS hlt, P (i + 1), fun σ'' H'' p' => ⟨xs.length - (i + 1), by omega, rfl, hlt, p'⟩, fun x H'' y => ?_⟩
    obtain ⟨rfl, hx⟩ := hJ.yld i H' x H'' hS hlt y
    exact hs i x σ' _ hx p
  · have e : i = xs.length := by omega
    subst e
    exact .inl ⟨hJ.stop _ H' hS (Nat.le_refl _), hd σ' H' p⟩
end
end Fp

/-! data that stands in the heap: lists and tuples of ints, texts, bools, None, nested -/
namespace Fp
open PySem PySem.Spec PyProof.Rows L2
mutual
inductive Dt (H : Hp) : V → PyData → Prop
  | non : Dt H .non .none
  | bl (b : Bool) : Dt H (.bl b) (.bool b)
  | int (i : Int) : Dt H (.int i) (.int i)
  | str (x : Str) : Dt H (.str x) (.str x)
  | lst {a : Addr} {xs : List V} {ds : List PyData} : H a = some (.lst xs) → Dts H xs ds → Dt H (.ref a) (.list ds)
  | tup {a : Addr} {xs : List V} {ds : List PyData} : H a = some (.tup xs) → Dts H xs ds → Dt H (.ref a) (.tuple ds)
inductive Dts (H : Hp) : List V → List PyData → Prop
  | nil : Dts H [] []
  | cons {v : V} {vs : List V} {d : PyData} {ds : List PyData} : Dt H v d → Dts H vs ds → Dts H (v :: vs) (d :: ds)
end
mutual
theorem Dt.same {H H' : Hp} (e : Same H H') : ∀ {d : PyData} {v : V}, Dt H v d → Dt H' v d
  | .none, _, .non => .non
  | .bool _, _, .bl b => .bl b
  | .int _, _, .int i => .int i
  | .str _, _, .str x => .str x
  | .list ds, _, .lst h t => .lst (e _ _ h) (Dts.same e t)
  | .tuple ds, _, .tup h t => .tup (e _ _ h) (Dts.same e t)
theorem Dts.same {H H' : Hp} (e : Same H H') : ∀ {ds : List PyData} {vs : List V}, Dts H vs ds → Dts H' vs ds
  | [], _, .nil => .nil
  | _ :: _, _, .cons h t => .cons (Dt.same e h) (Dts.same e t)
end
mutual
/-- a dict that changes is no part of data -/
theorem Dt.but {H H' : Hp} {p : Addr} {kvs : List (Key × V)} (hp : H p = some (.dK kvs)) (e : But p H H') : ∀ {d : PyData} {v : V}, Dt H v d → Dt H' v d
  | .none, _, .non => .non
  | .bool _, _, .bl b => .bl b
  | .int _, _, .int i => .int i
  | .str _, _, .str x => .str x
  | .list ds, _, .lst h t => .lst (e.1 _ _ h (ne_of h hp (by intro z; cases z))) (Dts.but hp e t)
  | .tuple ds, _, .tup h t => .tup (e.1 _ _ h (ne_of h hp (by intro z; cases z))) (Dts.but hp e t)
theorem Dts.but {H H' : Hp} {p : Addr} {kvs : List (Key × V)} (hp : H p = some (.dK kvs)) (e : But p H H') : ∀ {ds : List PyData} {vs : List V}, Dts H vs ds → Dts H' vs ds
  | [], _, .nil => .nil
  | _ :: _, _, .cons h t => .cons (Dt.but hp e h) (Dts.but hp e t)
end
mutual
theorem Dt.dp {K : PySem.W.Frag} {H : Hp} : ∀ {d : PyData} {v : V}, Dt H v d → Dp K H v d
  | .none, _, .non => .non
  | .bool _, _, .bl b => .bl b
  | .int _, _, .int i => .int i
  | .str _, _, .str x => .str x
  | .list ds, _, .lst h t => .lst (.inl (.inl h)) (Dts.dp t)
  | .tuple ds, _, .tup h t => .tup (.inl (.inl h)) (Dts.dp t)
theorem Dts.dp {K : PySem.W.Frag} {H : Hp} : ∀ {ds : List PyData} {vs : List V}, Dts H vs ds → DpAll K H vs ds
  | [], _, .nil => .nil
  | _ :: _, _, .cons h t => .cons (Dt.dp h) (Dts.dp t)
end
theorem Dts.len {H : Hp} : ∀ {ds : List PyData} {vs : List V}, Dts H vs ds → vs.length = ds.length
  | _, _, .nil => rfl
  | _, _, .cons _ t => by rw [List.length_cons, List.length_cons, Dts.len t]
theorem Dts.app {H : Hp} : ∀ {ds es : List PyData} {vs ws : List V}, Dts H vs ds → Dts H ws es → Dts H (vs ++ ws) (ds ++ es)
  | _, _, _, _, .nil, s => s
  | _, _, _, _, .cons h t, s => .cons h (Dts.app t s)
theorem Dts.get {H : Hp} : ∀ {ds : List PyData} {vs : List V} {i : Nat} {d : PyData}, Dts H vs ds → ds[i]? = some d → ∃ v, vs[i]? = some v ∧ Dt H v d
  | _, _, i, d, .nil, h => by simp at h
  | _, _, 0, d, .cons h t, e => by cases e; exact ⟨_, rfl, h⟩
  | _, _, i + 1, d, .cons h t, e => Dts.get (i := i) t e
theorem Dts.erase {H : Hp} : ∀ {ds : List PyData} {vs : List V} (i : Nat), Dts H vs ds → Dts H (vs.eraseIdx i) (ds.eraseIdx i)
  | _, _, _, .nil => .nil
  | _, _, 0, .cons _ t => t
  | _, _, i + 1, .cons h t => .cons h (Dts.erase i t)
theorem Dts.strs {H : Hp} : ∀ {zs : List Str} {vs : List V}, Dts H vs (zs.map PyData.str) → vs = zs.map V.str
  | [], _, .nil => rfl
  | z :: r, _, .cons (.str _) t => by rw [Dts.strs t]; rfl
theorem Dts.ints {H : Hp} : ∀ {zs : List Int} {vs : List V}, Dts H vs (zs.map PyData.int) → vs = zs.map V.int
  | [], _, .nil => rfl
  | z :: r, _, .cons (.int _) t => by rw [Dts.ints t]; rfl
theorem dts_strs {H : Hp} : ∀ zs : List Str, Dts H (zs.map V.str) (zs.map PyData.str)
  | [] => .nil
  | z :: r => .cons (.str z) (dts_strs r)
theorem dts_ints {H : Hp} : ∀ zs : List Int, Dts H (zs.map V.int) (zs.map PyData.int)
  | [] => .nil
  | z :: r => .cons (.int z) (dts_ints r)

theorem Dt.pair {H : Hp} {v : V} {d e : PyData} (h : Dt H v (.tuple [d, e])) : ∃ a x y, v = .ref a ∧ H a = some (.tup [x, y]) ∧ Dt H x d ∧ Dt H y e := by
  cases h with
  | tup h1 t1 =>
    cases t1 with
    | cons h2 t2 =>
      cases t2 with
      | cons h3 t3 =>
        cases t3
        exact ⟨_, _, _, rfl, h1, h2, h3⟩
theorem Dt.txt {H : Hp} {v : V} {z : Str} (h : Dt H v (.str z)) : v = .str z := by
  cases h
  rfl
theorem Dt.num {H : Hp} {v : V} {z : Int} (h : Dt H v (.int z)) : v = .int z := by
  cases h
  rfl
theorem Dt.list {H : Hp} {v : V} {ds : List PyData} (h : Dt H v (.list ds)) : ∃ a xs, v = .ref a ∧ H a = some (.lst xs) ∧ Dts H xs ds := by
  cases h with
  | lst h1 t1 => exact ⟨_, _, rfl, h1, t1⟩
theorem Dt.tuple {H : Hp} {v : V} {ds : List PyData} (h : Dt H v (.tuple ds)) : ∃ a xs, v = .ref a ∧ H a = some (.tup xs) ∧ Dts H xs ds := by
  cases h with
  | tup h1 t1 => exact ⟨_, _, rfl, h1, t1⟩

/-! ### what evaluates to data, leaving all that stands -/
def EvD (te : TE) (σ : L2.St) (H : Hp) (d : PyData) : Prop := ∀ H1, Same H H1 → ∀ Q : VK, (∀ v H2, Same H1 H2 → Dt H2 v d → Q v H2) → te σ H1 Q
def EvDs (ta : TA) (σ : L2.St) (H : Hp) (ds : List PyData) : Prop := ∀ H1, Same H H1 → ∀ Q : List V → Hp → Prop, (∀ vs H2, Same H1 H2 → Dts H2 vs ds → Q vs H2) → ta σ H1 Q
section
variable {K : PySem.W.Frag} {σ : L2.St} {H H' : Hp} {ta tb te : TE} {tr : TA} {d e : PyData} {ds es : List PyData}
theorem d_str {z : Str} : EvD (tC (.str z)) σ H (.str z) := fun H1 _ Q q => q _ H1 (Same.refl _) (.str z)
theorem d_int {z : Int} : EvD (tC (.int z)) σ H (.int z) := fun H1 _ Q q => q _ H1 (Same.refl _) (.int z)
theorem d_non : EvD (tC .non) σ H .none := fun H1 _ Q q => q _ H1 (Same.refl _) .non
theorem d_var {i : Nat} {v : V} (h : σ[i]? = some (some v)) (hd : Dt H v d) : EvD (tVar i) σ H d := fun H1 e Q q => ⟨v, h, q _ H1 (Same.refl _) (hd.same e)⟩
theorem d_nil : EvDs tNil σ H [] := fun H1 _ Q q => q _ H1 (Same.refl _) .nil
theorem d_cons (h : EvD ta σ H d) (t : EvDs tr σ H ds) : EvDs (tCons ta tr) σ H (d :: ds) := fun H1 e1 Q q =>
  h H1 e1 _ fun v H2 e2 hv => t H2 (e1.trans e2) _ fun vs H3 e3 hvs => q _ H3 (e2.trans e3) (.cons (hv.same e3) hvs)
theorem d_tup (t : EvDs tr σ H ds) (hl : ds.length ≤ 1000) : EvD (tTup tr) σ H (.tuple ds) := fun H1 e1 Q q =>
  t H1 e1 _ fun vs H2 e2 hvs => ⟨Nat.le_of_lt (small1000 (by rw [hvs.len]; exact hl)), fun p hp => q _ _ (Same.new e2 hp) (.tup upd_same (hvs.same (same_new hp)))⟩
theorem d_lst (t : EvDs tr σ H ds) (hl : ds.length ≤ 1000) : EvD (tLst tr) σ H (.list ds) := fun H1 e1 Q q =>
  t H1 e1 _ fun vs H2 e2 hvs => ⟨Nat.le_of_lt (small1000 (by rw [hvs.len]; exact hl)), fun p hp => q _ _ (Same.new e2 hp) (.lst upd_same (hvs.same (same_new hp)))⟩
theorem d_cat (ha : EvD ta σ H (.list ds)) (hb : EvD tb σ H (.list es)) (hl : ds.length + es.length ≤ 1000) : EvD (tOp rCat ta tb) σ H (.list (ds ++ es)) := fun H1 e1 Q q =>
  ha H1 e1 _ fun v H2 e2 hv => hb H2 (e1.trans e2) _ fun w H3 e3 hw => by
    cases hv with
    | lst h1 t1 =>
      cases hw with
      | lst h2 t2 =>
        exact ⟨_, _, _, _, rfl, rfl, e3 _ _ h1, h2, Nat.le_of_lt (small1000 (by rw [t1.len, t2.len]; exact hl)), fun p hp => q _ _ (Same.new (e2.trans e3) hp) (.lst upd_same (((t1.same e3).app t2).same (same_new hp)))⟩
theorem EvD.mono (h : EvD te σ H d) (e : Same H H') : EvD te σ H' d := fun H1 e1 Q q => h H1 (e.trans e1) Q q
theorem EvD.go {Q : VK} (h : EvD te σ H d) (q : ∀ v H2, Same H H2 → Dt H2 v d → Q v H2) : te σ H Q := h H (Same.refl _) Q q
/-- a call of a def that gives data -/
theorem d_call {sp : Sp} (h : EvDs tr σ H ds) (hs : ∀ vs H1, Same H H1 → Dts H1 vs ds → ∀ Q : VK, (∀ v H2, Same H1 H2 → Dt H2 v d → Q v H2) → sp vs H1 Q E0) : EvD (tCall sp [] E0 tr) σ H d := fun H1 e1 Q q =>
  h H1 e1 _ fun vs H2 e2 hvs => by
    rw [List.append_nil]
    exact hs vs H2 (e1.trans e2) hvs Q fun v H3 e3 hv => q v H3 (e2.trans e3) hv
end
section
variable {σ : L2.St} {H : Hp} {D : Ends} {te : TE} {d : PyData} {u : TS} {i : Nat}
theorem s_asgD (h : EvD te σ H d) (k : ∀ v H1, Same H H1 → Dt H1 v d → D.nx (σ.set i (some v)) H1) : tAsg te (gName i) D σ H := h.go fun v H1 e hv => k v H1 e hv
theorem q_asgD (h : EvD te σ H d) (k : ∀ v H1, Same H H1 → Dt H1 v d → u D (σ.set i (some v)) H1) : tSeq (tAsg te (gName i)) u D σ H := h.go fun v H1 e hv => k v H1 e hv
theorem s_retD (h : EvD te σ H d) (k : ∀ v H1, Same H H1 → Dt H1 v d → D.rt v H1) : tRet te D σ H := h.go fun v H1 e hv => k v H1 e hv
end
theorem eq_nilD {K : PySem.W.Frag} {H : Hp} {v : V} {q : Addr} {ds : List PyData} {Q : VK} (h : Dt H v (.list ds)) (hs : SeqAt.shaped (.list ds) = true) (hq : H q = some (.lst [])) (k : Q (.bl ds.isEmpty) H) : rEqD K v (.ref q) H Q := by
  obtain ⟨a, xs, rfl, ha, ht⟩ := h.list
  refine eq_nil (.inl (.inl ha)) ht.dp hs hq ?_
  have hl := ht.len
  cases ds with
  | nil => rw [List.length_eq_zero_iff.mp hl]; exact k
  | cons d r =>
    cases xs with
    | nil => cases hl
    | cons x y => exact k
theorem ne_nilD {K : PySem.W.Frag} {H : Hp} {v : V} {q : Addr} {ds : List PyData} {Q : VK} (h : Dt H v (.list ds)) (hs : SeqAt.shaped (.list ds) = true) (hq : H q = some (.lst [])) (k : Q (.bl (!ds.isEmpty)) H) : rNeD K v (.ref q) H Q := by
  obtain ⟨a, xs, rfl, ha, ht⟩ := h.list
  refine ne_nil (.inl (.inl ha)) ht.dp hs hq ?_
  have hl := ht.len
  cases ds with
  | nil => rw [List.length_eq_zero_iff.mp hl]; exact k
  | cons d r =>
    cases xs with
    | nil => cases hl
    | cons x y => exact k
/-! ### texts in lists -/
theorem flat_strs (zs : List Str) : (zs.map V.str).all flatV = true := by
  rw [List.all_map]
  exact List.all_eq_true.mpr fun z _ => rfl
theorem inV_strs (z : Str) (zs : List Str) : inV (.str z) (zs.map V.str) = decide (z ∈ zs) := by
  unfold inV
  rw [List.any_map]
  induction zs with
  | nil => rfl
  | cons y r ih =>
    rw [List.any_cons, ih]
    by_cases h : z = y
    · subst h
      simp [eqV]
    · simp [eqV, h]
      intro e
      exact absurd e.symm h
/-! ### comprehensions over data, whose items stood before -/
section
variable {K : PySem.W.Frag} {g : TG} {tt : TT} {te : TE} {vs : List Nat} {σ : L2.St} {H : Hp} {Q : VK} {J : It} {xs : List V} {S : Hp → Prop} {α : Type}
theorem lcg_old (hJ : JSeq J xs S) (hS : S H) (as : List α) (dat : α → PyData) (hxs : Dts H xs (as.map dat)) (hz : as.length < 100000) (fb : α → Bool) (fv : α → PyData)
    (hs : ∀ x a, a ∈ as → Dt H x (dat a) → ∀ H', Same H H' → ∀ (R1 : V → Hp → Prop) (R0 : Hp → Prop), (fb a = true → ∀ v H'', Same H' H'' → Dt H v (fv a) → R1 v H'') → (fb a = false → ∀ H'', Same H' H'' → R0 H'') →
      g x (wipe σ vs) H' fun σ2 H2 => wipe σ2 vs = wipe σ vs ∧ tt σ2 H2 fun b H3 => if b = true then te σ2 H3 R1 else R0 H3)
    (hd : ∀ D H', H D = none → Same H H' → Dt H' (.ref D) (.list ((as.filter fb).map fv)) → Q (.ref D) H') : LcG J g tt te vs σ H Q := by
  have hlen : xs.length = as.length := by rw [hxs.len, List.length_map]
  refine lcg_by hJ (fun D i acc H' => Same H H' ∧ H' D = some (.lst acc) ∧ Dts H acc (((as.take i).filter fb).map fv)) (fun D hD => ⟨same_new hD, upd_same, .nil⟩)
    (fun D i acc H' _ _ p => hJ.same _ _ hS p.1) (fun D i x acc H' hD hx p => ?_) (fun D acc H' hD p => ?_)
  · obtain ⟨p1, p2, p3⟩ := p
    have hi : i < as.length := hlen ▸ (List.getElem?_eq_some_iff.mp hx).1
    have ha : as[i]? = some as[i] := List.getElem?_eq_getElem hi
    obtain ⟨x', hx', hdx⟩ := hxs.get (i := i) (d := dat as[i]) (by rw [List.getElem?_map, ha]; rfl)
    rw [hx] at hx'
    cases hx'
    have tk : (((as.take (i + 1)).filter fb).map fv) = ((as.take i).filter fb).map fv ++ (if fb as[i] = true then [fv as[i]] else []) := by
      rw [List.take_add_one, ha, List.filter_append, List.map_append]
      cases h : fb as[i] with
      | true => simp [h]
      | false => simp [h]
    refine hs x as[i] (List.getElem_mem hi) hdx H' p1 _ _ (fun hb v H'' e hv => ?_) (fun hb H'' e => ?_)
    · refine ⟨acc, e _ _ p2, ?_, acc ++ [v], Same.mut (p1.trans e) hD, upd_same, ?_⟩
      · refine Nat.lt_of_lt_of_le (Nat.lt_of_le_of_lt (?_ : _ ≤ as.length) hz) (by decide)
        rw [p3.len, List.length_map]
        exact Nat.le_trans (List.length_filter_le _ _) (by rw [List.length_take]; exact Nat.min_le_right _ _)
      · rw [tk, if_pos hb]
        exact p3.app (.cons hv .nil)
    · refine ⟨acc, p1.trans e, e _ _ p2, ?_⟩
      rw [tk, if_neg (by rw [hb]; decide), List.append_nil]
      exact p3
  · obtain ⟨p1, p2, p3⟩ := p
    rw [hlen, List.take_length] at p3
    exact hd D H' hD p1 (.lst p2 (p3.same p1))
end
/-- a promise: from data to data -/
def spD (F : List PyData → Option PyData) : Sp := fun vs H Q _ => ∃ ds d, Dts H vs ds ∧ F ds = some d ∧ ∀ v H', Same H H' → Dt H' v d → Q v H'
theorem d_callF {σ : L2.St} {H : Hp} {tr : TA} {ds : List PyData} {d : PyData} {F : List PyData → Option PyData} (h : EvDs tr σ H ds) (hF : F ds = some d) : EvD (tCall (spD F) [] E0 tr) σ H d :=
  d_call h fun vs H1 e1 hvs Q q => ⟨ds, d, hvs, hF, q⟩
end Fp

/-! the rules with the written part told by name -/
namespace Fp
open PySem PySem.Spec PyProof.Rows L2
section
variable {X : Cx} (K : PySem.W.Frag)
theorem op_inK (hK : X.K = K := by rfl) : OpR X (compareOp .In) (rIn K false) := hK ▸ op_in_seq
theorem op_notInK (hK : X.K = K := by rfl) : OpR X (compareOp .NotIn) (rIn K true) := hK ▸ op_notIn_seq
theorem op_eqDK (hu : X.A.units + 64 < cLine) (hK : X.K = K := by rfl) : OpR X (compareOp .Eq) (rEqD K) := hK ▸ op_eqD hu
theorem op_neDK (hu : X.A.units + 64 < cLine) (hK : X.K = K := by rfl) : OpR X (compareOp .NotEq) (rNeD K) := hK ▸ op_neD hu
theorem call_lenK (hK : X.K = K := by rfl) : CallR X (.builtin "len") (rLenL K) := hK ▸ call_lenL
theorem call_listK (hK : X.K = K := by rfl) : CallR X (.type "list") (rListL K) := hK ▸ call_listL
theorem call_listTK (hK : X.K = K := by rfl) : CallR X (.type "list") (rListT K) := hK ▸ call_listT
def rTupL (K : PySem.W.Frag) : List V → Hp → VK → Prop := fun xs H Q => ∃ p ys, xs = [.ref p] ∧ SqL K H p ys ∧ ∀ l, H l = none → Q (.ref l) (upd H l (.tup ys))
theorem call_tupleK (hK : X.K = K := by rfl) : CallR X (.type "tuple") (rTupL K) := by
  subst hK
  intro pins s σ H xs us Q I r h
  obtain ⟨p, ys, e, h1, q⟩ := h
  exact call_tuple_of pins s σ H xs us Q I r ⟨p, ys, e, .inl ⟨h1, q⟩⟩
theorem call_allK (hc : X.calm = true) (hK : X.K = K := by rfl) : CallR X (.builtin "all") (rAll K) := hK ▸ cr_all hc
theorem ix_listK (hK : X.K = K := by rfl) : IxR X (rIxL K) := hK ▸ ix_list
theorem ix_tupK (hK : X.K = K := by rfl) : IxR X (rIxT K) := hK ▸ ix_tup
theorem ix_kdK (w : World) (hK : X.K = K := by rfl) (hw : X.w = w := by rfl) : IxR X (rIxD K w) := by
  subst hK hw
  exact ix_kdict
theorem sl_listK (hK : X.K = K := by rfl) : SlR X (rSlL K) := hK ▸ sl_list
variable {tg e o : Expr} {td : TE} {t : TA}
theorem pi_listK (he : PE X e td) (hK : X.K = K := by rfl) : PI X tg e (iList K td) := hK ▸ pi_list he
theorem pi_tupK (he : PE X e td) (hK : X.K = K := by rfl) : PI X tg e (iTup K td) := hK ▸ pi_tup he
theorem pi_kkK (he : PE X e td) (hK : X.K = K := by rfl) : PI X tg e (iKK K td) := hK ▸ pi_kk he
theorem pe_fldK {f : Str} {pos : Pos} (ho : PE X o td) (hb : attributeBase o f X.env (eval o X.env) = eval o X.env) (hK : X.K = K := by rfl) : PE X (.Attribute o f pos) (tFld K td f) := hK ▸ pe_fld ho hb
theorem ps_fldK {f : Str} {pos pos' : Pos} {v : Expr} {tv : TE} (ho : PE X o td) (hv : PE X v tv) (hs : swapsWith v (some (.Attribute o f pos')) pos.line X.env = pure false) (hK : X.K = K := by rfl) : PS X (.Assign [.Attribute o f pos'] v pos) (sFld K td tv f) := hK ▸ ps_fld ho hv hs
theorem pg_tupK {es : List Expr} {k n : Nat} {pos : Pos} {u : List V → L2.St → Hp → (L2.St → Hp → Prop) → Prop} (h : PG X (.Tuple es k pos) (gTup X.K n u)) (hK : X.K = K := by rfl) : PG X (.Tuple es k pos) (gTup K n u) := hK ▸ h
section
variable {T : String} {name : Str} {id : String} {to : TE} {r : V → List V → Hp → VK → Prop} {apos cpos : Pos} {es : List Expr}
theorem pe_bmK (hK : X.K = K := by rfl) (h : PE X (.Call (.Attribute o name apos) es [] cpos) (tBM X.K T r to t)) : PE X (.Call (.Attribute o name apos) es [] cpos) (tBM K T r to t) := hK ▸ h
theorem pe_bm0K (hK : X.K = K := by rfl) (h : PE X (.Call (.Attribute o name apos) es [] cpos) (tBM0 X.K T r to)) : PE X (.Call (.Attribute o name apos) es [] cpos) (tBM0 K T r to) := hK ▸ h
end
end
end Fp

/-! x != y where the class has an own __eq__ and no own __ne__ -/
namespace Fp
open PySem PySem.Spec PyProof.Rows L2
section
variable {X : Cx} {k : Nat} {C : Addr} {ps : List Str} {sp : Sp}
def rOwnNe (C : Addr) (sp : Sp) : R2 := fun x y H Q => ∃ a dx fs b dy gs, x = .ref a ∧ y = .ref b ∧ H a = some (.ins C dx fs) ∧ H b = some (.ins C dy gs) ∧ sp [.ref a, .ref b] H (fun v H' => ∃ r, v = .bl r ∧ Q (.bl (!r)) H') E0
theorem op_ownNe (hne : PySem.W.findIn X.K (.ref C) "__ne__" = some (some (.builtin "object.__ne__"))) (hm : PySem.W.mroIn X.K C (.type "object") = some true)
    (M : Mn X.prog X.w X.K X.mg X.base k C "__eq__" ps sp) (hr : Room (k + 1) X.A) : OpR X (compareOp .NotEq) (rOwnNe C sp) := by
  intro pins s σ H x y v u Q I rx ry h
  obtain ⟨a, dx, fs, b, dy, gs, rfl, rfl, ha, hb, q⟩ := h
  obtain rfl : v = Value.ref a := rx
  obtain rfl : u = Value.ref b := ry
  obtain ⟨g, fd, h1, h2, h3⟩ := M
  obtain ⟨od, J⟩ := inst_of I ha
  obtain ⟨od', J'⟩ := inst_of I hb
  have XK := I.kIn
  have SN := PySem.F.cmp_object.ne
  -- the def's own run, one deeper
  have run : codeAny (model X.prog X.w) X.A.in1 (.call (.ref g) ⟨[.ref a, .ref b], []⟩) (CR (fun _ _ _ _ _ _ => False) X.stack X.prog X.w H s (fun v H' => ∃ r, v = .bl r ∧ Q (.bl (!r)) H') E0) s := by
    have r2 : Vals [V.ref a, V.ref b] [Value.ref a, Value.ref b] := .cons rfl (.cons rfl .nil)
    have hl := h3.len _ _ _ _ q
    exact h3.run X.A.in1 X.stack s H ⟨[.ref a, .ref b], []⟩ [.ref a, .ref b] [.ref a, .ref b] _ E0 hr.in1 I.env0.in1 (h2 s [.ref a, .ref b] I.kIn hl) r2 q
  have body : wpAny (model X.prog X.w) X.A (call (.builtin "object.__ne__") [.ref a, .ref b]) (fun r s' => ∃ t, r = Value.bool t ∧ EP X pins σ Q (.bool t) s') X.xe s := by
    have sub : PySem.W.Looks (model X.prog X.w) s.heap (isInstance (.ref a) (.type "object")) true := J.type.andThen (PySem.W.looks_mroIn XK hm)
    refine wpAny_call (codeAny_call_builtin SN.plain PySem.F.cmpEntry_ne (@PySem.W.check_slot (model X.prog X.w) _ _ s "object.__ne__" "object" "__ne__" (.ref a) [.ref b] [] _ PySem.F.cmpKind_ne PySem.F.cmpSplit_ne sub (PySem.F.cmpArgs_ne _ _) ?_))
    unfold Builtin.«object.__ne__»
    refine wpAny_bind (wpAny_pure ?_)
    have hu : X.A.in1.units < cLine := hr.in1.units0
    refine wpAny_bind (wpAny_cRoomFor hu ?_)
    refine wpAny_bind (PySem.W.ifBound_K (od := some od) XK J h1.at_ h1.fn (wpAny_call (codeAny_mono run fun r s' hq => ?_)))
    cases r with
    | error e => exact hq.elim
    | ok fl =>
      cases fl with
      | ret u =>
        obtain ⟨v', H', I', rz, t, rfl, qz⟩ := I.after hq
        cases rz
        refine wpAny_bind (wpAny_truthy_bool ?_)
        exact wpAny_pure ⟨!t, rfl, .bl (!t), H', I', rfl, qz⟩
      | next => exact False.elim hq
      | brk => exact False.elim hq
      | cont => exact False.elim hq
  have one : wpAny (model X.prog X.w) X.A (tryCompare (.ref a) "__ne__" (.ref b)) (fun r s' => ∃ v, r = some v ∧ EP X pins σ Q v s') X.xe s := by
    unfold tryCompare
    refine wpAny_bind ?_
    simp only [callSpecialIfBound?, bindSpecialIfBound?]
    refine wpAny_holding (wpAny_bind (wpAny_bind (wpAny_bind (J.type.here ((PySem.W.looks_findIn XK hne).here ?_)))))
    have fin : wpAny (model X.prog X.w) X.A (call (.builtin "object.__ne__") ([.ref a] ++ [.ref b]) >>= fun v => pure (some v)) (fun r s' => wpAny (model X.prog X.w) X.A (match r with | some .notImplemented | none => pure none | some v => pure (some v)) (fun r s' => ∃ v, r = some v ∧ EP X pins σ Q v s') X.xe s') X.xe s :=
      wpAny_bind (wpAny_mono body (fun r s' hr' => by obtain ⟨t, rfl, e⟩ := hr'; exact wpAny_pure (wpAny_pure ⟨_, rfl, e⟩)) fun _ _ z => z)
    refine wpAny_bind (wpAny_askSetting (wpAny_ite ?_))
    split
    · rw [SN.bind]
      exact wpAny_bind (wpAny_pure (wpAny_pure fin))
    · rw [SN.bind]
      exact wpAny_tryCatch (wpAny_bind (wpAny_pure (wpAny_pure fin)))
  show wpAny _ _ (richCompare .NotEq _ _) _ _ _
  unfold richCompare
  simp only [PySem.oneThing_ref]
  have e0 : ((Value.ref C != Value.ref C) = true) = False := by simp
  refine wpAny_holding (wpAny_bind (wpAny_cRoomFor hr.units0 (wpAny_bind (J.type.here (wpAny_bind (J'.type.here ?_))))))
  simp only [e0, if_false]
  refine wpAny_bind (wpAny_pure ?_)
  simp only [Bool.false_eq_true, if_false]
  refine wpAny_bind (wpAny_mono one (fun r s' z => ?_) fun _ _ e => e)
  obtain ⟨v, rfl, hq⟩ := z
  exact wpAny_pure hq
end
end Fp

namespace Fp
open PySem PySem.Spec PyProof.Rows L2
local macro_rules | `(tactic| walk_at "rd") => `(tactic| simp only [cxK, cxKn, tRet, tRetN, rIntI, rIntB, rLenL, rListL, rListT, rAbs, tDisp, tPairs, tC, tCB, tCons, tNil, tSl, tVar, tNoPart, tPart, rSlL, tOp, tAsg, gName, tIfS, tDrop, tTest, tAnd, tOr, Evl.tCut, tNot, tB, rI0, rI, rIxL, rIxT, rIxD, tDGet, sDPut, tLst, tTup, tBM, tBM0, tPar, rAppend, rPopAt, rPop, rExtend, rTupL, tCall, tNext, rAll, rOwnIn, rOwn2, rCat, lc_iL, lc_iT, lc_iK, lc_iR, fr_iL, fr_iT, fr_iR, tYes, rIn, rEq, rNe, gTup, gCons, gNil, wipe, tMeth, tFld, sFld, tMake, tProp, tIf, tAndV, tOrV, tNotV, if_true, if_false, Bool.false_eq_true, List.map_cons, List.map_nil, List.nil_append, List.append_nil, List.cons_append, List.getElem?_cons_zero, List.getElem?_cons_succ, Option.some.injEq, exists_and_left, exists_eq_left', exists_eq_left, List.cons.injEq, and_true, true_and, V.ref.injEq, V.int.injEq, V.str.injEq, V.bl.injEq, List.set_cons_zero, List.set_cons_succ])
theorem seqi {t u : TS} {D : Ends} {σ : L2.St} {H : Hp} (h : ∀ k : L2.St → Hp → Prop, k = u D → t { D with nx := k } σ H) : tSeq t u D σ H := h _ rfl
theorem tSeq_eq {t u : TS} {D : Ends} {σ : L2.St} {H : Hp} : tSeq t u D σ H = t { D with nx := u D } σ H := rfl
section
variable {K : PySem.W.Frag} {P : Program} {w : World} {base : Heap} {mg : Str → Option Value}
theorem cxK {CX : CXT} {N : List Str} {qual : Str} {sc : Scope} {f : Addr} {cdv : Value} {A : Around} {outer : List Env} {s : Shared} {H : Hp} {E : XK} : (cxOf CX P w K mg base N qual sc f cdv A outer s H E).K = K := rfl
theorem cxKn {CX : CXT} {N : List Str} {qual : Str} {sc : Scope} {f : Addr} {cdv : Value} {A : Around} {outer : List Env} {s : Shared} {H : Hp} {E : XK} : (cxOf CX P w K mg base N qual sc f cdv A outer s H E).nox.K = K := rfl
end
section
variable {K : PySem.W.Frag} {P : Program} {w : World} {base : Heap} {mg : Str → Option Value}
end

/-! ### the mathematics: rules by number -/
def rn (i : Nat) : Str := (["grouping", "order", "middle", "first", "last", "ends", "keep", "take", "vanish"] : List Str).getD i ""
def kn (i : Nat) : Str := (["trees", "pairs", "words", "bags", "parity", "middles", "heads", "tails", "sets", "outer", "lefts", "rights", "one"] : List Str).getD i ""
def KR (i : Nat) : List Nat := [[], [1], [0], [0, 1], [0, 1, 8], [0, 2], [0, 2, 3], [0, 2, 4], [0, 1, 2, 3, 4], [0, 2, 5], [0, 2, 3, 5, 6], [0, 2, 4, 5, 7], [0, 1, 2, 3, 4, 5, 6, 7, 8]].getD i []
abbrev R9 : List Nat := [0, 1, 2, 3, 4, 5, 6, 7, 8]
abbrev K13 : List Nat := [0, 1, 2, 3, 4, 5, 6, 7, 8, 9, 10, 11, 12]
def ruD (l : List Nat) : PyData := .list (l.map fun i => .str (rn i))
def kiD (i : Nat) : PyData := .tuple [.str (kn i), ruD (KR i)]
def thD : PyData := .list (K13.map kiD)
section
variable {K : PySem.W.Frag} {P : Program} {w : World} {base : Heap} {mg : Str → Option Value}
def spNine : Sp := fun vs H Q _ => vs = [] ∧ ∀ v H', Same H H' → Dt H' v (ruD R9) → Q v H'
def spThir : Sp := fun vs H Q _ => vs = [] ∧ ∀ v H', Same H H' → Dt H' v thD → Q v H'
end

/-! ### more mathematics -/
def hasB (k : Nat) (ns : List Nat) : Bool := ns.all fun n => decide (n ∈ KR k)
def clos (ns : List Nat) : List Nat := R9.filter fun r => ((K13.filter fun k => hasB k ns).filter fun k => !decide (r ∈ KR k)).isEmpty
theorem rn_inj : ∀ i ∈ R9, ∀ j ∈ R9, rn i = rn j → i = j := by decide
def rS (l : List Nat) : List Str := l.map rn
theorem mem_rS {i : Nat} {l : List Nat} (hi : i ∈ R9) (hl : ∀ j ∈ l, j ∈ R9) : (rn i ∈ rS l) = (i ∈ l) := propext ⟨fun h => by
  obtain ⟨j, hj, e⟩ := List.mem_map.mp h
  rw [← rn_inj j (hl j hj) i hi e]
  exact hj, fun h => List.mem_map_of_mem h⟩
theorem KR_in : ∀ k ∈ K13, ∀ j ∈ KR k, j ∈ R9 := by decide
theorem ruD_eq (l : List Nat) : ruD l = .list ((rS l).map PyData.str) := by
  unfold ruD rS
  rw [List.map_map]
  rfl
theorem shp_rn : ∀ i ∈ R9, (PyData.str (rn i)).canLay0 = true ∧ (PyData.str (rn i)).depth ≤ 0 := by decide +kernel
theorem shp_ru {l : List Nat} (h : ∀ j ∈ l, j ∈ R9) : Shp 1 (ruD l) := shp_lst fun d hd => by
  obtain ⟨i, hi, rfl⟩ := List.mem_map.mp hd
  exact shp_rn i (h i hi)
theorem filter_empty {α : Type} (p : α → Bool) : ∀ l : List α, (l.filter fun x => !p x).isEmpty = l.all p
  | [] => rfl
  | x :: r => by
    rw [List.filter_cons, List.all_cons, ← filter_empty p r]
    cases p x with
    | true => rfl
    | false => rfl
theorem map_empty {α β : Type} (f : α → β) (l : List α) : (l.map f).isEmpty = l.isEmpty := by cases l <;> rfl
theorem dts_rS {H : Hp} : ∀ l : List Nat, Dts H ((rS l).map V.str) (l.map fun n => PyData.str (rn n))
  | [] => .nil
  | n :: r => .cons (.str _) (dts_rS r)
theorem Dt.rules {H : Hp} {v : V} {l : List Nat} (h : Dt H v (ruD l)) : ∃ a, v = .ref a ∧ H a = some (.lst ((rS l).map V.str)) := by
  rw [ruD_eq] at h
  cases h with
  | lst h1 t => exact ⟨_, rfl, by rw [h1, Dts.strs t]⟩
section
variable {K : PySem.W.Frag} {P : Program} {w : World} {base : Heap} {mg : Str → Option Value}
/-- names: rules by number -/
def spClos : Sp := fun vs H Q _ => ∃ v ns, vs = [v] ∧ Dt H v (ruD ns) ∧ (∀ n ∈ ns, n ∈ R9) ∧ ns.length ≤ 9 ∧ ∀ v H', Same H H' → Dt H' v (ruD (clos ns)) → Q v H'
end

theorem perm_erase {α : Type} : ∀ (l : List α) (i : Nat) (x : α), l[i]? = some x → (x :: l.eraseIdx i).Perm l
  | [], _, _, h => by simp at h
  | y :: r, 0, x, h => by
    cases h
    exact List.Perm.refl _
  | y :: r, i + 1, x, h => by
    have ih := perm_erase r i x h
    exact (List.Perm.swap y x _).trans (ih.cons y)
section
variable {K : PySem.W.Frag} {P : Program} {w : World} {base : Heap} {mg : Str → Option Value}
def spShuf : Sp := fun vs H Q _ => ∃ p c v t ds n, vs = [.ref p, v] ∧ PenOk H p c t ∧ Dt H v (.list ds) ∧ (∀ d ∈ ds, Shp n d) ∧ n ≤ 60 ∧ ds.length ≤ 900 ∧ t ≤ 900000000 ∧
  ∀ a H' es, es.Perm ds → PenOk H' p c (t + ds.length) → But p H H' → Dt H' (.ref a) (.list es) → Q (.ref a) H'
end
/-! ### the mathematics of closing -/
def sub (b : Nat) : List Nat := R9.filter fun i => b.testBit i
def weak (ns : List Nat) : Nat := (K13.filter fun k => hasB k ns).headD 0
def allOk (b : Nat) : Bool :=
  decide (KR (weak (sub b)) = clos (sub b)) && decide ((K13.filter fun k => decide (KR k = clos (sub b))) = [weak (sub b)])
theorem all_ok : (List.range 512).all allOk = true := by decide +kernel
theorem sub_ok {b : Nat} (h : b < 512) : KR (weak (sub b)) = clos (sub b) ∧ (K13.filter fun k => decide (KR k = clos (sub b))) = [weak (sub b)] := by
  have h1 := List.all_eq_true.mp all_ok b (List.mem_range.mpr h)
  unfold allOk at h1
  rw [Bool.and_eq_true, decide_eq_true_eq, decide_eq_true_eq] at h1
  exact h1
theorem sub_in {b i : Nat} (h : i ∈ sub b) : i ∈ R9 := (List.mem_filter.mp h).1
theorem sub_len (b : Nat) : (sub b).length ≤ 9 := List.length_filter_le _ _
theorem clos_in {ns : List Nat} {i : Nat} (h : i ∈ clos ns) : i ∈ R9 := (List.mem_filter.mp h).1
theorem has_one {ns : List Nat} (h : ∀ n ∈ ns, n ∈ R9) : hasB 12 ns = true := List.all_eq_true.mpr fun n hn => decide_eq_true (h n hn)
theorem weak_head {ns : List Nat} (h : ∀ n ∈ ns, n ∈ R9) : (K13.filter fun k => hasB k ns)[0]? = some (weak ns) ∧ weak ns ∈ K13 := by
  have hm : 12 ∈ K13.filter fun k => hasB k ns := List.mem_filter.mpr ⟨by decide, has_one h⟩
  unfold weak
  cases e : (K13.filter fun k => hasB k ns) with
  | nil => rw [e] at hm; cases hm
  | cons k r => exact ⟨rfl, (List.mem_filter.mp (show k ∈ K13.filter fun k => hasB k ns by rw [e]; exact List.mem_cons_self)).1⟩
theorem kinds_ok : K13.all (fun k => decide (weak (KR k) = k)) = true := by decide +kernel
theorem weak_KR {k : Nat} (h : k ∈ K13) : weak (KR k) = k := of_decide_eq_true (List.all_eq_true.mp kinds_ok k h)
theorem KR_sorted : K13.all (fun k => decide (R9.filter (fun i => decide (i ∈ KR k)) = KR k)) = true := by decide +kernel
theorem KR_filter {k : Nat} (h : k ∈ K13) : R9.filter (fun i => decide (i ∈ KR k)) = KR k := of_decide_eq_true (List.all_eq_true.mp KR_sorted k h)
theorem sub_filter (b : Nat) : R9.filter (fun i => decide (i ∈ sub b)) = sub b := by
  unfold sub
  refine List.filter_congr fun i hi => ?_
  cases h : b.testBit i with
  | true => exact decide_eq_true (List.mem_filter.mpr ⟨hi, h⟩)
  | false => exact decide_eq_false fun z => absurd (List.mem_filter.mp z).2 (by rw [h]; decide)
theorem kn_rn : K13.all (fun k => R9.all fun i => !decide (kn k = rn i)) = true := by decide +kernel
theorem eqv_strs : ∀ a b : List Str, PyData.eqvAll (a.map PyData.str) (b.map PyData.str) = decide (a = b)
  | [], [] => rfl
  | [], _ :: _ => rfl
  | _ :: _, [] => rfl
  | x :: a, y :: b => by
    show ((x == y) && PyData.eqvAll (a.map PyData.str) (b.map PyData.str)) = _
    rw [eqv_strs a b]
    by_cases h : x = y
    · subst h
      simp
    · simp [h]
theorem rS_inj : ∀ {a b : List Nat}, (∀ n ∈ a, n ∈ R9) → (∀ n ∈ b, n ∈ R9) → (rS a = rS b) = (a = b)
  | [], [], _, _ => by simp
  | [], _ :: _, _, _ => by simp [rS]
  | _ :: _, [], _, _ => by simp [rS]
  | x :: a, y :: b, ha, hb => by
    have ih := rS_inj (a := a) (b := b) (fun n hn => ha n (List.mem_cons_of_mem _ hn)) (fun n hn => hb n (List.mem_cons_of_mem _ hn))
    have hx := ha x List.mem_cons_self
    have hy := hb y List.mem_cons_self
    have e1 : (rn x = rn y) = (x = y) := propext ⟨fun e => rn_inj x hx y hy e, fun e => by rw [e]⟩
    show (rn x :: rS a = rn y :: rS b) = _
    simp only [List.cons.injEq]
    rw [e1, ih]
theorem eqv_ru {a b : List Nat} (ha : ∀ n ∈ a, n ∈ R9) (hb : ∀ n ∈ b, n ∈ R9) : PyData.eqv (ruD a) (ruD b) = decide (a = b) := by
  rw [ruD_eq, ruD_eq]
  show PyData.eqvAll _ _ = _
  rw [eqv_strs, decide_eq_decide.mpr (iff_of_eq (rS_inj ha hb))]

/-! ### what the top has written of rules -/
def kS : List Str := K13.map kn
structure TxR (K : PySem.W.Frag) (w : World) (mg : Str → Option Value) (aR aD C : Addr) (T : Nat → Addr) : Prop where
  mR : mg "_RULES" = some (.ref aR)
  mD : mg "_RULES_OF" = some (.ref aD)
  mC : mg "Rules" = some (.ref C)
  sR : ∀ H, SqT K H aR ((rS R9).map V.str)
  kk : KKeys K aD kS
  dD : ∃ es n, KDict K w aD es n
  dI : ∀ k ∈ K13, KDct K w aD (kn k) (.ref (T k))
  sT : ∀ k ∈ K13, ∀ H, SqT K H (T k) ((rS (KR k)).map V.str)
  cl : Cls K C
  nN : NoAttr K C "_names"
  nK : NoAttr K C "_kind"
  m_list : mg "list" = none
  m_all : mg "all" = none
  m_tuple : mg "tuple" = none
  m_isi : mg "isinstance" = none
section
variable {K : PySem.W.Frag} {P : Program} {w : World} {base : Heap} {mg : Str → Option Value} {aR aD C : Addr} {T : Nat → Addr}
def spRulesOf : Sp := fun vs H Q _ => ∃ k ∈ K13, vs = [.str (kn k)] ∧ ∀ v H', Same H H' → Dt H' v (ruD (KR k)) → Q v H'
def spHas (K : PySem.W.Frag) : Sp := fun vs H Q _ => ∃ a b k ns, vs = [.ref a, .ref b] ∧ k ∈ K13 ∧ (∀ n ∈ ns, n ∈ R9) ∧ ns.length ≤ 9 ∧ SqT K H a ((rS (KR k)).map V.str) ∧ SqT K H b ((rS ns).map V.str) ∧
  ∀ H', Same H H' → Q (.bl (hasB k ns)) H'
def spWeak (K : PySem.W.Frag) : Sp := fun vs H Q _ => ∃ b ns, vs = [.ref b] ∧ (∀ n ∈ ns, n ∈ R9) ∧ ns.length ≤ 9 ∧ SqT K H b ((rS ns).map V.str) ∧ ∀ H', Same H H' → Q (.str (kn (weak ns))) H'
theorem dts_bools {H : Hp} : ∀ {bs : List Bool} {vs : List V}, Dts H vs (bs.map PyData.bool) → vs = bs.map V.bl
  | [], _, .nil => rfl
  | z :: r, _, .cons (.bl _) t => by rw [dts_bools t]; rfl
end

def rFl (t : Addr) (k : Str) : List (Str × V) := putF "_kind" (.str k) (putF "_names" (.ref t) [])
theorem s_nk : ¬ (("_names" : Str) = "_kind") := by decide +kernel
theorem rFl_names (t : Addr) (k : Str) : (rFl t k).lookup ("_names" : Str) = some (.ref t) := by
  unfold rFl
  rw [lookup_putF, if_neg s_nk, lookup_putF, if_pos rfl]
theorem rFl_kind (t : Addr) (k : Str) : (rFl t k).lookup ("_kind" : Str) = some (.str k) := by
  unfold rFl
  rw [lookup_putF, if_pos rfl]
theorem rFl_no (t : Addr) (k m : Str) (h1 : ¬ m = "_kind") (h2 : ¬ m = "_names") : (rFl t k).lookup m = none := by
  unfold rFl
  rw [lookup_putF, if_neg h1, lookup_putF, if_neg h2]
  rfl
/-- a set of rules stands at p -/
def RuAt (H : Hp) (C p : Addr) (s : List Nat) : Prop := ∃ dx t, H p = some (.ins C dx (rFl t (kn (weak s)))) ∧ H t = some (.tup ((rS s).map V.str))
theorem RuAt.same {H H' : Hp} {C p : Addr} {s : List Nat} (h : RuAt H C p s) (e : Same H H') : RuAt H' C p s := by
  obtain ⟨dx, t, h1, h2⟩ := h
  exact ⟨dx, t, e _ _ h1, e _ _ h2⟩
section
variable {K : PySem.W.Frag} {P : Program} {w : World} {base : Heap} {mg : Str → Option Value} {aR aD C : Addr} {T : Nat → Addr}
def spInit (C : Addr) : Sp := fun vs H Q _ => ∃ p dx v ns, vs = [.ref p, v] ∧ H p = some (.ins C dx []) ∧ Dt H v (ruD ns) ∧ (∀ n ∈ ns, n ∈ R9) ∧ ns.length ≤ 9 ∧
  ∀ H', (∀ b o, H b = some o → b ≠ p → H' b = some o) → RuAt H' C p (R9.filter fun i => decide (i ∈ ns)) → Q .non H'
end

theorem Same.but {p : Addr} {H H' : Hp} (e : Same H H') : But p H H' := But.of e
section
variable {K : PySem.W.Frag} {P : Program} {w : World} {base : Heap} {mg : Str → Option Value} {aR aD C : Addr} {T : Nat → Addr}
def spListed (C : Addr) : Sp := fun vs H Q _ => ∃ p s, vs = [.ref p] ∧ RuAt H C p s ∧ ∀ v H', Same H H' → Dt H' v (ruD s) → Q v H'
def spKind (C : Addr) : Sp := fun vs H Q _ => ∃ p s, vs = [.ref p] ∧ RuAt H C p s ∧ ∀ H', Same H H' → Q (.str (kn (weak s))) H'
def spClosed (C : Addr) : Sp := fun vs H Q _ => ∃ p s, vs = [.ref p] ∧ RuAt H C p s ∧ weak s ∈ K13 ∧ ∀ p' H', Same H H' → RuAt H' C p' (KR (weak s)) → Q (.ref p') H'
def spCont (C : Addr) : Sp := fun vs H Q _ => ∃ p s z, vs = [.ref p, .str z] ∧ RuAt H C p s ∧ weak s ∈ K13 ∧ ∀ H', Same H H' → Q (.bl (decide (z ∈ rS (KR (weak s))))) H'
def spEq (C : Addr) : Sp := fun vs H Q _ => ∃ p s p' s', vs = [.ref p, .ref p'] ∧ RuAt H C p s ∧ RuAt H C p' s' ∧ (∀ n ∈ s, n ∈ R9) ∧ (∀ n ∈ s', n ∈ R9) ∧ ∀ H', Same H H' → Q (.bl (decide (s = s'))) H'
/-- the kind whose rules are closed under names -/
def spKW : Sp := fun vs H Q _ => ∃ v b, vs = [v] ∧ b < 512 ∧ Dt H v (ruD (sub b)) ∧ ∀ H', Same H H' → Q (.str (kn (weak (sub b)))) H'
end

/-! ### which rules are drawn -/
theorem mk_rules {C : Addr} {H : Hp} {v : V} {l : List Nat} {Q : VK} (hv : Dt H v (ruD l)) (hl : ∀ n ∈ l, n ∈ R9) (hn : l.length ≤ 9) (q : ∀ p H', Same H H' → RuAt H' C p (R9.filter fun i => decide (i ∈ l)) → Q (.ref p) H') :
    ∀ x dx, H x = none → H dx = none → dx ≠ x → spInit C [.ref x, v] (upd (upd H dx (.own x)) x (.ins C dx [])) (fun v H2 => v = .non ∧ Q (.ref x) H2) E0 := by
  intro x dx nx ndx ne
  have e2 : Same H (upd (upd H dx (.own x)) x (.ins C dx [])) := fun b o hb => by
    rw [upd_ne (ne_of_none hb nx), upd_ne (ne_of_none hb ndx)]
    exact hb
  exact ⟨x, dx, v, l, rfl, upd_same, hv.same e2, hl, hn, fun H2 k2 r2 => ⟨rfl, q _ _ (fun b o hb => k2 b o (e2 _ _ hb) (ne_of_none hb nx)) r2⟩⟩
def pick : List Bool → List Nat → List Nat
  | b :: bs, x :: xs => if b = true then x :: pick bs xs else pick bs xs
  | _, _ => []
theorem pick_snoc : ∀ (bs : List Bool) (xs : List Nat) (b : Bool) (x : Nat), xs[bs.length]? = some x → pick (bs ++ [b]) xs = pick bs xs ++ (if b = true then [x] else [])
  | [], [], _, _, h => by simp at h
  | [], y :: r, b, x, h => by
    cases h
    cases b <;> rfl
  | c :: bs, [], _, _, h => by simp at h
  | c :: bs, y :: r, b, x, h => by
    have ih := pick_snoc bs r b x h
    cases c with
    | true =>
      show y :: pick (bs ++ [b]) r = y :: pick bs r ++ _
      rw [ih]
      rfl
    | false => exact ih
def bitsOf : List Bool → Nat
  | [] => 0
  | b :: r => (if b = true then 1 else 0) + 2 * bitsOf r
theorem pick9 : ∀ b0 b1 b2 b3 b4 b5 b6 b7 b8 : Bool, pick [b0, b1, b2, b3, b4, b5, b6, b7, b8] R9 = sub (bitsOf [b0, b1, b2, b3, b4, b5, b6, b7, b8]) ∧ bitsOf [b0, b1, b2, b3, b4, b5, b6, b7, b8] < 512 := by decide +kernel
theorem pick_sub {bs : List Bool} (h : bs.length = 9) : ∃ b, b < 512 ∧ pick bs R9 = sub b := by
  match bs, h with
  | [b0, b1, b2, b3, b4, b5, b6, b7, b8], _ => exact ⟨_, (pick9 b0 b1 b2 b3 b4 b5 b6 b7 b8).2, (pick9 b0 b1 b2 b3 b4 b5 b6 b7 b8).1⟩
theorem pick_len : ∀ (bs : List Bool) (xs : List Nat), (pick bs xs).length ≤ bs.length
  | [], _ => Nat.le_of_eq (by cases ‹List Nat› <;> rfl)
  | _ :: _, [] => Nat.zero_le _
  | b :: bs, x :: xs => by
    have ih := pick_len bs xs
    cases b with
    | true => exact Nat.succ_le_succ ih
    | false => exact Nat.le_succ_of_le ih
theorem perm_map_inv {α β : Type} {f : α → β} {es m : List β} (h : es.Perm m) : ∀ l : List α, m = l.map f → ∃ l' : List α, l'.Perm l ∧ es = l'.map f := by
  induction h with
  | nil => exact fun l e => ⟨l, List.Perm.refl _, e⟩
  | cons x _ ih =>
    intro l e
    cases l with
    | nil => cases e
    | cons a r =>
      injection e with e1 e2
      obtain ⟨r', p, e3⟩ := ih r e2
      exact ⟨a :: r', p.cons a, by rw [e1, e3]; rfl⟩
  | swap x y l0 =>
    intro l e
    match l, e with
    | a :: b :: r, e =>
      injection e with e1 e2
      injection e2 with e2 e3
      exact ⟨b :: a :: r, List.Perm.swap a b r, by rw [e1, e2, e3]; rfl⟩
  | trans _ _ ih1 ih2 =>
    intro l e
    obtain ⟨l2, p2, e2⟩ := ih2 l e
    obtain ⟨l1, p1, e1⟩ := ih1 l2 e2
    exact ⟨l1, p1.trans p2, e1⟩
theorem filter_perm {a b : List Nat} (h : a.Perm b) : R9.filter (fun i => decide (i ∈ a)) = R9.filter fun i => decide (i ∈ b) :=
  List.filter_congr fun i _ => decide_eq_decide.mpr h.mem_iff
def kS2 : List Str := kS ++ [("" : Str), ("q" : Str)]
theorem kS2_no : K13.all (fun k => kS2.all fun z => !decide (z ∈ rS (KR k))) = true := by decide +kernel
theorem weak_in (b : Nat) : weak (sub b) ∈ K13 := (weak_head fun n hn => sub_in hn).2
theorem shp_kS2 : ∀ z ∈ kS2, Shp 0 (.str z) := by
  have h : kS2.all (fun z => (PyData.str z).canLay0) = true := by decide +kernel
  exact fun z hz => ⟨List.all_eq_true.mp h z hz, Nat.le_refl _⟩
theorem RuAt.but {p : Addr} {kvs : List (Key × V)} {H H' : Hp} {C q : Addr} {s : List Nat} (hp : H p = some (.dK kvs)) (h : RuAt H C q s) (e : But p H H') : RuAt H' C q s := by
  obtain ⟨dx, t, h1, h2⟩ := h
  exact ⟨dx, t, e.1 _ _ h1 (ne_of h1 hp (by intro z; cases z)), e.1 _ _ h2 (ne_of h2 hp (by intro z; cases z))⟩
section
variable {K : PySem.W.Frag} {P : Program} {w : World} {base : Heap} {mg : Str → Option Value} {aR aD C : Addr} {T : Nat → Addr}
def spLaw (K : PySem.W.Frag) : Sp := fun vs H Q _ => ∃ (a : Addr) (ns : List Int), vs = [.ref a] ∧ SqL K H a (ns.map V.int) ∧ ns.length ≤ 63 ∧ ∀ H', Q (.bl true) H'
end

end Fp

/-! more rules at a written part K -/
namespace Fp
open PySem PySem.Spec PyProof.Rows L2
section
variable {X : Cx} {K : PySem.W.Frag}
/-- == of data, the one side flat enough -/
def rEqC (K : PySem.W.Frag) : R2 := fun x y H Q => ∃ d e, Dp K H x d ∧ Dp K H y e ∧ d.canLay0 = true ∧ e.canLay0 = true ∧ min d.depth e.depth ≤ 64 ∧ Q (.bl (PyData.eqv d e)) H
def rNeC (K : PySem.W.Frag) : R2 := fun x y H Q => ∃ d e, Dp K H x d ∧ Dp K H y e ∧ d.canLay0 = true ∧ e.canLay0 = true ∧ min d.depth e.depth ≤ 64 ∧ Q (.bl (!PyData.eqv d e)) H
theorem op_eqC (hu : X.A.units + 64 < cLine) (hK : X.K = K := by rfl) : OpR X (compareOp .Eq) (rEqC K) := by
  subst hK
  intro pins s σ H x y v u Q I rx ry h
  obtain ⟨d, e, hd, he, sd, se, hm, q⟩ := h
  obtain ⟨as, r1⟩ := Dp.reads I d x v hd rx
  obtain ⟨bs, r2⟩ := Dp.reads I e y u he ry
  exact SeqAt.compareEq_reads r1 r2 sd se (by omega) ⟨.bl _, H, I, rfl, q⟩
theorem op_neC (hu : X.A.units + 64 < cLine) (hK : X.K = K := by rfl) : OpR X (compareOp .NotEq) (rNeC K) := by
  subst hK
  intro pins s σ H x y v u Q I rx ry h
  obtain ⟨d, e, hd, he, sd, se, hm, q⟩ := h
  obtain ⟨as, r1⟩ := Dp.reads I d x v hd rx
  obtain ⟨bs, r2⟩ := Dp.reads I e y u he ry
  exact SeqAt.compareNe_reads r1 r2 sd se (by omega) ⟨.bl _, H, I, rfl, q⟩
theorem call_isi1 (hK : X.K = K := by rfl) : CallR X (.builtin "isinstance") (rIsi K) := hK ▸ call_isi
theorem cr_sumK (hc : X.calm = true) (hK : X.K = K := by rfl) : CallR X (.builtin "sum") (rSum K) := hK ▸ cr_sum hc
def tTru (K : PySem.W.Frag) (ta : TE) : TT := fun σ H Q => ta σ H fun x H' => ∃ k, TruV K x H' k ∧ Q k H'
theorem pt_truthK {a : Expr} {ta : TE} (ha : PE X a ta) (he : ∀ whole, isTrue a X.env whole = (do let v ← whole; standAt a.pos; holding [v] (truthy v)) := by exact fun _ => rfl) (hK : X.K = K := by rfl) : PT X a (tTru K ta) := by
  subst hK
  exact pt_truth ha he
theorem pe_revK {e : Expr} {te : TE} {k : Nat} {p1 p2 p3 pos : Pos} (he : PE X e te) (hK : X.K = K := by rfl) : PE X (.Subscript e (.Slice none none (some (.UnaryOp .USub (.Constant (.int 1) k p1) p2)) p3) pos) (tRevL K te) := by
  subst hK
  exact pe_revL he
/-- a list against the empty one -/
theorem ne_nilC {H : Hp} {v : V} {q : Addr} {ds : List PyData} {Q : VK} (h : Dt H v (.list ds)) (hs : PyData.canLayAll0 ds = true) (hq : H q = some (.lst [])) (k : Q (.bl (!ds.isEmpty)) H) : rNeC K v (.ref q) H Q := by
  refine ⟨.list ds, .list [], h.dp, .lst (.inl (.inl hq)) .nil, hs, rfl, Nat.le_trans (Nat.min_le_right _ _) (by decide), ?_⟩
  cases ds <;> exact k
end
end Fp

/-! lambdas with parameters and without captured names: made, held, called -/
namespace Fp
open PySem PySem.Spec PyProof.Rows L2 LamX
/-- what a lambda is in the text -/
structure Lm where
  qual : Str
  ps : Arguments
  bd : Expr
  sc : Scope
def LamF (f c : Addr) (l : Lm) : HO := .ext fun h => ∃ pm ctv : Value, h.get? f = some (PySem.W.kla_obj "<lambda>" l.qual l.ps l.bd l.sc [] pm c ctv)
/-- the lambda stands at f -/
def LamAt (H : Hp) (f : Addr) (l : Lm) : Prop := ∃ c, H f = some (LamF f c l) ∧ H c = some (CodeO c l.qual)
theorem LamAt.ext {H H' : Hp} {f : Addr} {l : Lm} (h : LamAt H f l) (e : ExtN H H') : LamAt H' f l := by
  obtain ⟨c, h1, h2⟩ := h
  refine ⟨c, e _ _ h1 fun ps z => ?_, e _ _ h2 codeO_ne⟩
  unfold LamF at z
  cases z
theorem LamAt.same {H H' : Hp} {f : Addr} {l : Lm} (h : LamAt H f l) (e : Same H H') : LamAt H' f l := h.ext (ExtN.of e)
section
variable {X : Cx} {pins : List (Addr × Obj)} {σ : L2.St} {H : Hp} {s : Shared}
theorem lam_lay {f c : Addr} {l : Lm} {pm ctv : Value} {hp : Heap} {tk : Nat} (I : Inv X pins σ H { s with heap := hp, toks := tk }) (ef : f = hp.objs.size) (hc : H c = some (CodeO c l.qual)) :
    Inv X pins σ (upd H f (LamF f c l)) { s with heap := hp.push (PySem.W.kla_obj "<lambda>" l.qual l.ps l.bd l.sc [] pm c ctv), toks := tk } := by
  have kp : ∀ b u, hp.get? b = some u → (hp.push (PySem.W.kla_obj "<lambda>" l.qual l.ps l.bd l.sc [] pm c ctv)).get? b = some u := fun b u z => Heap.get?_push_of_some _ z
  have gf : (hp.push (PySem.W.kla_obj "<lambda>" l.qual l.ps l.bd l.sc [] pm c ctv)).get? f = some (PySem.W.kla_obj "<lambda>" l.qual l.ps l.bd l.sc [] pm c ctv) := by
    rw [ef]
    exact Heap.get?_push_size _ rfl
  exact Inv.laid (s := { s with heap := hp, toks := tk }) (a := f) (o := LamF f c l) (t' := tk) I kp (Nat.le_of_eq ef.symm) ⟨⟨pm, ctv, gf⟩, ⟨_, gf⟩, fun h1 h2 ⟨a, b, z⟩ st => ⟨a, b, st _ z⟩⟩
/-- the table P of the code object c: which names its entries bear -/
structure Mak (base : Heap) (mg : Str → Option Value) (T : List (Addr × Str)) (cd : Value) (q : Str) : Prop where
  ex : ∃ c P, cd = .ref c ∧ TabB base mg c P ∧ (P, q) ∈ T ∧ ∀ p ∈ T, p.1 = P → p.2 = q
def tLamV (T : List (Addr × Str)) (l : Lm) : TE := fun _ H Q => Tabs T H ∧ ∀ f H1, ExtN H H1 → Tabs T H1 → LamAt H1 f l → Q (.ref f) H1
theorem pe_lamV {T : List (Addr × Str)} {qual : Str} {params : Arguments} {body : Expr} {scope : Scope} {pos : Pos} (M : Mak X.base X.mg T X.env.code qual) (hq : qual = X.env.qual ++ "<lambda>") (hdef : defaultsOf params X.env = ([], [])) (hfree : ∀ y ∈ scope.names, y.2 ≠ .free) (hcl : cloFrom X.env.cells scope.names [] = []) :
    PE X (.Lambda params body scope pos) (tLamV T ⟨qual, params, body, scope⟩) := by
  subst hq
  refine ⟨fun pins s σ H Q I hyp => ?_⟩
  obtain ⟨hT, hyp⟩ := hyp
  obtain ⟨c, P, hcode, TB, hm, hu⟩ := M.ex
  obtain ⟨ps, hP, ht, ha⟩ := hT _ hm
  refine PySem.W.kla_eval hdef ?_
  have b1 : s.heap.BuiltinsAt X.mg P := TB.bm.keeps I.bk
  have b2 : s.heap.get? P = some { cls := .none, data := .fields ps } := I.hok P _ hP
  have b3 := I.mod.glob.keeps I.bk
  have b4 := TB.code.keeps I.bk
  have clo := closure_ok (env := X.env) (scope := scope) fun y hy e => absurd e (hfree y hy)
  rw [hcl] at clo
  cases hc : codeAmong pos ps.toList with
  | none =>
    refine PySem.W.kla_makeFunction (mg := X.mg) (c := c) (P := P) (ps := ps) clo I.ok.glob b3 hcode b4 b2 ht hc TB.gP b1 fun c' ctv h' tk hx hge hlt hrec htb => ?_
    obtain ⟨c2, oc, vs, t, e2, hoc, hd, hv⟩ := hrec
    cases e2
    have nC : H c' = none := I.hok.fresh hge
    have nP : P ≠ c' := ne_of_none hP nC
    have I1 := inv_table (q := X.env.qual ++ "<lambda>") (t' := tk) (more := #[rawInt pos.line, rawInt pos.col, .ref c']) I hP hx htb hge ⟨oc, vs, t, hoc, hd, hv⟩
    have E1 : ExtN H (upd (upd H P (.tbl (ps ++ #[rawInt pos.line, rawInt pos.col, .ref c']))) c' (CodeO c' (X.env.qual ++ "<lambda>"))) := fun b o e n => by
      rw [upd_ne (ne_of_none e nC), upd_ne]
      · exact e
      · intro z
        rw [z, hP] at e
        exact n ps (Option.some.inj e).symm
    have T1 : Tabs T (upd (upd H P (.tbl (ps ++ #[rawInt pos.line, rawInt pos.col, .ref c']))) c' (CodeO c' (X.env.qual ++ "<lambda>"))) := fun p hp => by
      by_cases hb : p.1 = P
      · rw [hu p hp hb, hb]
        have eL : (ps ++ #[rawInt pos.line, rawInt pos.col, .ref c']).toList = ps.toList ++ [rawInt pos.line, rawInt pos.col, .ref c'] := by simp
        refine ⟨_, (upd_ne nP).trans upd_same, eL ▸ PySem.TriplesOk_snoc _ _ _ _ ht, fun p' cv z => ?_⟩
        rw [eL] at z
        rcases among_app _ ht z with z | z
        · obtain ⟨c0, e1, e2⟩ := ha p' cv z
          exact ⟨c0, e1, E1 _ _ e2 codeO_ne⟩
        · exact ⟨c', z, upd_same⟩
      · obtain ⟨ps', a1, a2, a3⟩ := hT p hp
        refine ⟨ps', by rw [upd_ne (ne_of_none a1 nC), upd_ne hb]; exact a1, a2, fun p' cv z => ?_⟩
        obtain ⟨c0, e1, e2⟩ := a3 p' cv z
        exact ⟨c0, e1, E1 _ _ e2 codeO_ne⟩
    have nF : (upd (upd H P (.tbl (ps ++ #[rawInt pos.line, rawInt pos.col, .ref c']))) c' (CodeO c' (X.env.qual ++ "<lambda>"))) h'.objs.size = none := I1.hok.fresh (Nat.le_refl _)
    have I2 := lam_lay (f := h'.objs.size) (c := c') (l := ⟨X.env.qual ++ "<lambda>", params, body, scope⟩) (pm := (X.mg "__name__").getD .none) (ctv := ctv) I1 rfl upd_same
    have E2 := same_new (o := LamF h'.objs.size c' ⟨X.env.qual ++ "<lambda>", params, body, scope⟩) nF
    exact ⟨.ref _, _, I2, rfl, hyp _ _ (E1.trans (ExtN.of E2)) (T1.ext E2) ⟨c', upd_same, E2 _ _ upd_same⟩⟩
  | some cv =>
    obtain ⟨c', e, hco⟩ := ha pos cv hc
    subst e
    refine PySem.W.kla_makeFunctionHit (mg := X.mg) (c := c) (P := P) (ps := ps) clo I.ok.glob b3 hcode b4 b2 ht hc b1 fun ctv h' tk hx hsz => ?_
    have I1 : Inv X pins σ H { s with heap := h', toks := tk } := I.kept hx
    have nF : H h'.objs.size = none := I1.hok.fresh (Nat.le_refl _)
    have I2 := lam_lay (f := h'.objs.size) (c := c') (l := ⟨X.env.qual ++ "<lambda>", params, body, scope⟩) (pm := (X.mg "__name__").getD .none) (ctv := ctv) I1 rfl hco
    have E2 := same_new (o := LamF h'.objs.size c' ⟨X.env.qual ++ "<lambda>", params, body, scope⟩) nF
    exact ⟨.ref _, _, I2, rfl, hyp _ _ (ExtN.of E2) (hT.ext E2) ⟨c', upd_same, E2 _ _ hco⟩⟩
end
/-! ### its call -/
/-- what the lambda promises: its body as a term -/
structure LamOk (P : Program) (w : World) (K : PySem.W.Frag) (mg : Str → Option Value) (base : Heap) (k : Nat) (l : Lm) (N : List Str) (sp : Sp) : Prop where
  scope : FnScope N N l.sc
  binds : ∀ (c : Value) (pm ctv : Value) (us : List Value), us.length = N.length → bindArgs (PySem.W.kla_fn "<lambda>" l.qual l.ps l.bd l.sc [] pm c ctv) ⟨us, []⟩ = pure (N.zip us)
  len : ∀ vs H Q, sp vs H Q E0 → vs.length = N.length
  body : ∀ (f c : Addr) (A : Around) (outer : List Env) (s : Shared) (H : Hp) (vs : List V) (Q : VK), Room k (A.deeper (envOfC l.qual l.sc s.heap.objs.size f (.ref c))) → sp vs H Q E0 →
    ∃ t, PE (cxOf CX0 P w K mg base N l.qual l.sc f (.ref c) A outer s H E0) l.bd t ∧ t (L2.start N vs) H Q
theorem vals_len : ∀ {vs : List V} {us : List Value}, Vals vs us → vs.length = us.length
  | _, _, .nil => rfl
  | _, _, .cons _ r => congrArg Nat.succ (vals_len r)
theorem run_lam {P : Program} {w : World} {K : PySem.W.Frag} {mg : Str → Option Value} {base : Heap} {k : Nat} {l : Lm} {N : List Str} {sp : Sp} {A : Around} {outer : List Env} {s : Shared} {H : Hp} {f : Addr} {us : List Value} {vs : List V} {Q : VK}
    (L : LamOk P w K mg base k l N sp) (hl : LamAt H f l) (hr : Room (k + 1) A) (e0 : Env0 P w K mg base A outer s H) (r : Vals vs us) (h : sp vs H Q E0) :
    codeAny (model P w) A (.call (.ref f) ⟨us, []⟩) (CR CX0 outer P w H s Q E0) s := by
  obtain ⟨c, h1, h2⟩ := hl
  obtain ⟨⟨pm, ctv, of⟩, _, _⟩ := e0.hok f _ h1
  obtain ⟨⟨oc, vv, t, hoc, hdc, hvc⟩, _, _⟩ := e0.hok c _ h2
  have lenU : us.length = N.length := by rw [← L.len vs H Q h]; exact (vals_len r).symm
  have lim : s.heap.NoLimit := e0.mod.nolimit.keeps fun b o e => (e0.bs b o e).1
  have hkind : ∀ y ∈ N.zip us, l.sc.names.lookup y.1 = some .local ∨ (l.sc.names.lookup y.1 = some .cell ∧ ((cellsFrom (s.heap.objs.size + 1) l.sc.names []).lookup y.1).isSome = true) := fun ⟨n, v⟩ hy => by
    rcases L.scope.par n (List.of_mem_zip hy).1 with q | q
    · exact .inl q
    · exact .inr ⟨q, PySem.W.cellsFrom_some _ _ _ (.inl q)⟩
  refine PySem.W.kla_callFunE hr.depth of rfl L.scope.co L.scope.gen rfl ⟨c, oc, vv, t, rfl, hoc, hdc, hvc⟩ ?_
  rw [L.binds _ _ _ _ lenU]
  refine wpAny_pure (wpAny_newFunctionEnv_cells L.scope.kind hkind fun env he s1 x => ?_)
  subst he
  refine ⟨lim.keeps x.toInCall.keep, PySem.W.kla_codeExpr ?_⟩
  obtain ⟨te, ht, hq⟩ := L.body f c A outer s H vs Q (hr.deeper _) h
  have I : Inv (cxOf CX0 P w K mg base N l.qual l.sc f (.ref c) A outer s H E0) [] (L2.start N vs) H s1 := inv_start L.scope hr.hd e0 (L.len vs H Q h) r x
  refine wpAny_mono (ht.run [] s1 (L2.start N vs) H Q I hq) (fun v s' hs => ?_) fun e s' hs => hs
  obtain ⟨w', H', J, rv, q⟩ := hs
  exact ⟨w', H', J.os, J.bare, J.base, J.hok, rv, q⟩
/-- a function of the text, or a lambda, at f -/
def OpAt (P : Program) (w : World) (K : PySem.W.Frag) (mg : Str → Option Value) (base : Heap) (k : Nat) (f : Addr) (sp : Sp) (H : Hp) : Prop :=
  Held P w K mg base k f sp ∨ ∃ l N, LamAt H f l ∧ LamOk P w K mg base (k - 1) l N sp ∧ 0 < k
theorem OpAt.ext {P : Program} {w : World} {K : PySem.W.Frag} {mg : Str → Option Value} {base : Heap} {k : Nat} {f : Addr} {sp : Sp} {H H' : Hp} (h : OpAt P w K mg base k f sp H) (e : ExtN H H') : OpAt P w K mg base k f sp H' := by
  rcases h with h | ⟨l, N, a, b, c⟩
  · exact .inl h
  · exact .inr ⟨l, N, a.ext e, b, c⟩
def tCallO (P : Program) (w : World) (K : PySem.W.Frag) (mg : Str → Option Value) (base : Heap) (k i : Nat) (t : TA) : TE := fun σ H Q => ∃ f sp, σ[i]? = some (some (.ref f)) ∧ OpAt P w K mg base k f sp H ∧ t σ H fun vs H1 => ExtN H H1 ∧ sp vs H1 Q E0
theorem pe_callO {X : Cx} {k i : Nat} {x : Str} {p pos : Pos} {e : Expr} {es : List Expr} {t : TA} (hr : Room k X.A) (hN : X.N[i]? = some x) (hv : Vis X.env.scope x) (ha : PA X (e :: es) t)
    (hdb : (x == ("__debug__" : Str)) = false := by decide) (hcd : (x == ("__classdict__" : Str)) = false := by decide)
    (he : starEach (e :: es) X.env = (false, eval e X.env) :: starEach es X.env := by rfl) (hpl : (backTo pos (starEach es X.env)).any (·.1) = false := by rfl) :
    PE X (.Call (.Name x p) (e :: es) [] pos) (tCallO X.prog X.w X.K X.mg X.base k i t) := by
  refine ⟨fun pins s σ H Q I h => ?_⟩
  obtain ⟨f, sp, hs, hO, ht⟩ := h
  rcases hO with hK | ⟨l, N, hl, hL, hk⟩
  · obtain ⟨fd, ps, F, hk, hb⟩ := hK.ex
    refine wpAny_Call_Name_kw (thn ((pe_var (pos := p) hN hv hdb hcd).run pins s σ H (fun v H1 => v = .ref f ∧ H1 = H) I ⟨.ref f, hs, rfl, rfl⟩) fun u s1 ⟨v, H1, I1, r1, q1⟩ => ?_)
    obtain ⟨rfl, rfl⟩ := q1
    cases r1
    refine PySem.W.callWith_K (h₀ := X.base) I.ok.mod.kin hk (thn (ha.run pos pins s1 σ _ _ I1 ht) fun us s2 ⟨vs, H2, I2, r, q⟩ => ⟨I2.kIn, ?_⟩) he hpl
    have q2 : sp (vs ++ []) H2 Q E0 := by
      rw [List.append_nil]
      exact q.2
    exact run_fn F hr hb .nil (fun _ _ _ _ _ _ _ z => z.elim) I2 r q2
  · obtain ⟨j, rfl⟩ : ∃ j, k = j + 1 := ⟨k - 1, by omega⟩
    refine wpAny_Call_Name_kw (thn ((pe_var (pos := p) hN hv hdb hcd).run pins s σ H (fun v H1 => v = .ref f ∧ H1 = H) I ⟨.ref f, hs, rfl, rfl⟩) fun u s1 ⟨v, H1, I1, r1, q1⟩ => ?_)
    obtain ⟨rfl, rfl⟩ := q1
    cases r1
    have fnA : ∀ {Hx : Hp} {sx : Shared}, LamAt Hx f l → Inv X pins σ Hx sx → PySem.W.FnAt f sx.heap := fun {Hx sx} z J => by
      obtain ⟨c, h1, _⟩ := z
      obtain ⟨⟨pm, ctv, of⟩, _, _⟩ := J.hok f _ h1
      exact ⟨_, _, _, _, of⟩
    refine PySem.W.callWith_F (fnA hl I1) (thn (ha.run pos pins s1 σ _ _ I1 ht) fun us s2 ⟨vs, H2, I2, r, q⟩ => ⟨fnA (hl.ext q.1) I2, ?_⟩) he hpl
    refine wpAny_call (codeAny_mono (run_lam hL (hl.ext q.1) hr I2.env0 r q.2) fun r' s3 hq => ?_)
    cases r' with
    | error e => exact hq.elim
    | ok fl =>
      cases fl with
      | ret u => exact I2.after hq
      | next => exact False.elim hq
      | brk => exact False.elim hq
      | cont => exact False.elim hq
theorem pe_callOK {X : Cx} {P : Program} {w : World} {K : PySem.W.Frag} {mg : Str → Option Value} {base : Heap} {k i : Nat} {x : Str} {p pos : Pos} {e : Expr} {es : List Expr} {t : TA} (hr : Room k X.A) (hN : X.N[i]? = some x) (hv : Vis X.env.scope x) (ha : PA X (e :: es) t)
    (h1 : X.prog = P := by rfl) (h2 : X.w = w := by rfl) (h3 : X.K = K := by rfl) (h4 : X.mg = mg := by rfl) (h5 : X.base = base := by rfl)
    (hdb : (x == ("__debug__" : Str)) = false := by decide) (hcd : (x == ("__classdict__" : Str)) = false := by decide)
    (he : starEach (e :: es) X.env = (false, eval e X.env) :: starEach es X.env := by rfl) (hpl : (backTo pos (starEach es X.env)).any (·.1) = false := by rfl) :
    PE X (.Call (.Name x p) (e :: es) [] pos) (tCallO P w K mg base k i t) := by
  subst h1 h2 h3 h4 h5
  exact pe_callO hr hN hv ha hdb hcd he hpl
/-- a def whose code object is known -/
theorem fn_cd {P : Program} {w : World} {K : PySem.W.Frag} {mg : Str → Option Value} {base : Heap} {x qual : Str} {st : Stmt} {f : Addr} {N ps : List Str} {k : Nat} {sp : Sp} {oc kV doc pm cdv ct : Value} {od an : Option Addr} {osl : Array (Option Value)}
    (lk : K.lookup f = some ⟨oc, od, .func (PySem.W.fnOf x qual (defArgs st) (defBody st) (defScope st) .none kV doc pm an cdv ct), osl⟩) (hcd : PySem.W.codeIn K cdv qual = true) (S : FnScope N ps (defScope st)) (len : ∀ vs H Q E, sp vs H Q E → vs.length = ps.length)
    (hb : ∀ (A : Around) (outer : List Env) (s : Shared) (H : Hp) (vs : List V) (Q : VK) (E : XK), Room k (A.deeper (envOfC qual (defScope st) s.heap.objs.size f cdv)) → sp vs H Q E →
      ∃ t, PSs (cxOf CX0 P w K mg base N qual (defScope st) f cdv A outer s H E).nox (defBody st) t ∧ t { nx := fun _ H' => Q .non H', rt := Q } (start N vs) H) :
    FnOk P w K mg base CX0 (k + 1) f (PySem.W.fnOf x qual (defArgs st) (defBody st) (defScope st) .none kV doc pm an cdv ct) ps sp := by
  refine fn_of lk hcd S len fun A outer s H vs Q E hr hsp => ?_
  obtain ⟨t, h, q⟩ := hb A outer s H vs Q E hr hsp
  exact ⟨t, h.nox, q⟩
theorem tabs_but {T : List (Addr × Str)} {H H' : Hp} {p : Addr} {kvs : List (Key × V)} (hp : H p = some (.dK kvs)) (e : But p H H') (t : Tabs T H) : Tabs T H' := fun x hx => by
  obtain ⟨ps, h1, h2, h3⟩ := t x hx
  refine ⟨ps, e.1 _ _ h1 (ne_of h1 hp (by intro z; cases z)), h2, fun pos cv hc => ?_⟩
  obtain ⟨c, e1, e2⟩ := h3 pos cv hc
  refine ⟨c, e1, e.1 _ _ e2 (ne_of e2 hp ?_)⟩
  intro z
  unfold CodeO at z
  cases z
end Fp

/-! trees of letters -/
namespace Fp
open PySem PySem.Spec PyProof.Rows L2
inductive Tr where
  | leaf (n : Int)
  | node (l r : Tr)
def Tr.dat : Tr → PyData
  | .leaf n => .int n
  | .node l r => .tuple [l.dat, r.dat]
def Tr.post : Tr → List (Option Int)
  | .leaf n => [some n]
  | .node l r => l.post ++ r.post ++ [none]
def Tr.lets : Tr → List Int
  | .leaf n => [n]
  | .node l r => l.lets ++ r.lets
/-- nodes of both sorts, brackets twice -/
def Tr.sz : Tr → Nat
  | .leaf _ => 1
  | .node l r => l.sz + r.sz + 2
def oD : Option Int → PyData
  | none => .none
  | some n => .int n
theorem Tr.lay : ∀ t : Tr, t.dat.canLay0 = true
  | .leaf _ => rfl
  | .node l r => by
    show (l.dat.canLay0 && (r.dat.canLay0 && true)) = true
    rw [l.lay, r.lay]
    rfl
theorem Tr.post_len : ∀ t : Tr, t.post.length ≤ t.sz
  | .leaf _ => Nat.le_refl _
  | .node l r => by
    have h1 := l.post_len
    have h2 := r.post_len
    show (l.post ++ r.post ++ [none]).length ≤ l.sz + r.sz + 2
    rw [List.length_append, List.length_append, List.length_singleton]
    omega
theorem Tr.sz_lets : ∀ t : Tr, t.sz + 2 = 3 * t.lets.length
  | .leaf _ => rfl
  | .node l r => by
    have h1 := l.sz_lets
    have h2 := r.sz_lets
    show l.sz + r.sz + 2 + 2 = 3 * (l.lets ++ r.lets).length
    rw [List.length_append]
    omega
theorem Tr.post_lets : ∀ t : Tr, t.post.filterMap id = t.lets
  | .leaf _ => rfl
  | .node l r => by
    show (l.post ++ r.post ++ [none]).filterMap id = l.lets ++ r.lets
    rw [List.filterMap_append, List.filterMap_append, l.post_lets, r.post_lets]
    exact List.append_nil _
theorem post_filter : ∀ xs : List (Option Int), (xs.filter fun x => x.isSome).map oD = (xs.filterMap id).map PyData.int
  | [] => rfl
  | none :: xs => post_filter xs
  | some n :: xs => congrArg (PyData.int n :: ·) (post_filter xs)
theorem Tr.post_mem {t : Tr} {n : Int} (h : some n ∈ t.post) : n ∈ t.lets := by
  rw [← t.post_lets]
  exact List.mem_filterMap.mpr ⟨_, h, rfl⟩
theorem Tr.lets_pos : ∀ t : Tr, 0 < t.lets.length
  | .leaf _ => Nat.one_pos
  | .node l r => by
    show 0 < (l.lets ++ r.lets).length
    rw [List.length_append]
    exact Nat.lt_of_lt_of_le l.lets_pos (Nat.le_add_right _ _)
/-! ### what waits -/
def wD : Option Tr → PyData
  | none => .none
  | some t => t.dat
def wPost : Option Tr → List (Option Int)
  | none => [none]
  | some t => t.post
def wSz : Option Tr → Nat
  | none => 1
  | some t => t.sz
def oV : Option Int → V
  | none => .non
  | some n => .int n
theorem dts_o {H : Hp} : ∀ xs : List (Option Int), Dts H (xs.map oV) (xs.map oD)
  | [] => .nil
  | none :: xs => .cons .non (dts_o xs)
  | some n :: xs => .cons (.int n) (dts_o xs)
theorem dts_split {H : Hp} : ∀ {ds es : List PyData} {vs : List V}, Dts H vs (ds ++ es) → ∃ a b, vs = a ++ b ∧ Dts H a ds ∧ Dts H b es
  | [], _, vs, h => ⟨[], vs, rfl, .nil, h⟩
  | _ :: ds, es, _, .cons h t => by
    obtain ⟨a, b, e, h1, h2⟩ := dts_split (ds := ds) t
    exact ⟨_ :: a, b, by rw [e]; rfl, .cons h h1, h2⟩
theorem Dts.one {H : Hp} {d : PyData} {vs : List V} (h : Dts H vs [d]) : ∃ v, vs = [v] ∧ Dt H v d := by
  cases h with
  | cons a b =>
    cases b
    exact ⟨_, rfl, a⟩
theorem snoc_cases {α : Type} (l : List α) : l = [] ∨ ∃ a x, l = a ++ [x] := by
  rcases List.eq_nil_or_concat l with h | ⟨a, x, h⟩
  · exact .inl h
  · exact .inr ⟨a, x, by rw [h, List.concat_eq_append]⟩
def wSum (ws : List (Option Tr)) : Nat := (ws.map wSz).sum
theorem wSum_app (a b : List (Option Tr)) : wSum (a ++ b) = wSum a + wSum b := by
  unfold wSum
  rw [List.map_append, List.sum_append]
theorem wD_post (ws : List (Option Tr)) (x : Option Tr) : (ws ++ [x]).reverse.flatMap wPost = wPost x ++ ws.reverse.flatMap wPost := by
  rw [List.reverse_append]
  rfl
def tSum (ws : List Tr) : Nat := (ws.map Tr.sz).sum
theorem tSum_app (a b : List Tr) : tSum (a ++ b) = tSum a + tSum b := by
  unfold tSum
  rw [List.map_append, List.sum_append]
theorem tSum_len : ∀ l : List Tr, l.length ≤ tSum l
  | [] => Nat.le_refl _
  | t :: l => by
    have h := tSum_len l
    have h2 : 1 ≤ t.sz := by cases t <;> exact Nat.succ_le_succ (Nat.zero_le _)
    show l.length + 1 ≤ t.sz + tSum l
    omega
theorem lay_trees : ∀ ws : List Tr, PyData.canLayAll0 (ws.map Tr.dat) = true
  | [] => rfl
  | t :: ws => by
    show (t.dat.canLay0 && PyData.canLayAll0 (ws.map Tr.dat)) = true
    rw [t.lay, lay_trees ws]
    rfl
theorem snoc_lets (ws : List Tr) (x : Tr) : (ws ++ [x]).reverse.flatMap Tr.lets = x.lets ++ ws.reverse.flatMap Tr.lets := by
  rw [List.reverse_append]
  rfl
theorem split2 {α : Type} : ∀ (l : List α) (i : Nat), i + 1 < l.length → ∃ a x y b, l = a ++ x :: y :: b ∧ a.length = i
  | [], _, h => absurd h (Nat.not_lt_zero _)
  | [_], i, h => absurd h (by simp)
  | x :: y :: b, 0, _ => ⟨[], x, y, b, rfl, rfl⟩
  | z :: l, i + 1, h => by
    obtain ⟨a, x, y, b, e, ea⟩ := split2 l i (Nat.lt_of_succ_lt_succ h)
    exact ⟨z :: a, x, y, b, by rw [e]; rfl, by rw [← ea]; rfl⟩
theorem cut_from (xs : List V) (k : Nat) : cutV xs (some (k : Int)) none = xs.drop k := by
  unfold cutV
  rw [HT.sIx_none, show HT.sIx xs.length 0 (some (k : Int)) = min k xs.length from HT.sIx_nat _ _ k]
  rcases Nat.le_total k xs.length with h | h
  · rw [Nat.min_eq_left h, List.take_of_length_le (by rw [List.length_drop]; exact Nat.le_refl _)]
  · rw [Nat.min_eq_right h, List.drop_of_length_le h, List.drop_of_length_le (Nat.le_refl _)]
    exact List.take_nil
theorem dts_cons {H : Hp} {d : PyData} {ds : List PyData} {vs : List V} (h : Dts H vs (d :: ds)) : ∃ v ws, vs = v :: ws ∧ Dt H v d ∧ Dts H ws ds := by
  cases h with
  | cons a b => exact ⟨_, _, rfl, a, b⟩
theorem cut_last (xs : List V) (x : V) : cutV (xs ++ [x]) none (some (-1)) = xs := by
  unfold cutV
  have e : HT.sIx (xs ++ [x]).length (xs ++ [x]).length (some (-1)) = xs.length := by
    show (if (-1 : Int) < 0 then ((-1 : Int) + ((xs ++ [x]).length : Int)).toNat else min (-1 : Int).toNat (xs ++ [x]).length) = _
    rw [if_pos (by decide), List.length_append, List.length_singleton]
    omega
  rw [HT.sIx_none, e]
  show List.take (xs.length - 0) (xs ++ [x]) = xs
  rw [Nat.sub_zero]
  exact List.take_left
/-! ### put together again -/
def reb : List (Option Int) → List Tr → Option (List Tr)
  | [], s => some s
  | some n :: xs, s => reb xs (.leaf n :: s)
  | none :: xs, r :: l :: s => reb xs (.node l r :: s)
  | none :: _, _ => none
theorem reb_post : ∀ (t : Tr) (xs : List (Option Int)) (s : List Tr), reb (t.post ++ xs) s = reb xs (t :: s)
  | .leaf _, _, _ => rfl
  | .node l r, xs, s => by
    show reb (l.post ++ r.post ++ [none] ++ xs) s = _
    rw [List.append_assoc, List.append_assoc, reb_post l, reb_post r]
    rfl
def lvs (s : List Tr) : Nat := (s.map fun t => t.lets.length).sum
theorem reb_lvs : ∀ (xs : List (Option Int)) (s s' : List Tr), reb xs s = some s' → lvs s ≤ lvs s'
  | [], s, s', h => by
    cases h
    exact Nat.le_refl _
  | some n :: xs, s, s', h => by
    have := reb_lvs xs (.leaf n :: s) s' h
    have e : lvs (.leaf n :: s) = 1 + lvs s := rfl
    omega
  | none :: xs, [], s', h => nomatch h
  | none :: xs, [_], s', h => nomatch h
  | none :: xs, r :: l :: s, s', h => by
    have := reb_lvs xs (.node l r :: s) s' h
    have e : lvs (.node l r :: s) = (l.lets ++ r.lets).length + lvs s := rfl
    have e2 : lvs (r :: l :: s) = r.lets.length + (l.lets.length + lvs s) := rfl
    rw [List.length_append] at e
    omega
/-! ### behind a lambda's making -/
mutual
theorem Dt.ext {H H' : Hp} (e : LamX.ExtN H H') : ∀ {d : PyData} {v : V}, Dt H v d → Dt H' v d
  | .none, _, .non => .non
  | .bool _, _, .bl b => .bl b
  | .int _, _, .int i => .int i
  | .str _, _, .str x => .str x
  | .list ds, _, .lst h t => .lst (e _ _ h (by intro ps z; cases z)) (Dts.ext e t)
  | .tuple ds, _, .tup h t => .tup (e _ _ h (by intro ps z; cases z)) (Dts.ext e t)
theorem Dts.ext {H H' : Hp} (e : LamX.ExtN H H') : ∀ {ds : List PyData} {vs : List V}, Dts H vs ds → Dts H' vs ds
  | [], _, .nil => .nil
  | _ :: _, _, .cons h t => .cons (Dt.ext e h) (Dts.ext e t)
end
theorem PenOk.ext {H H' : Hp} {p c : Addr} {t : Nat} (h : PenOk H p c t) (e : LamX.ExtN H H') : PenOk H' p c t := by
  obtain ⟨cells, turn, left, h1, h2, h3⟩ := h.ex
  exact ⟨cells, turn, left, e _ _ h1 (by intro ps z; cases z), e _ _ h2 (by intro ps z; cases z), h3⟩
theorem rng_at {m : Nat} {fv : V → V} {n : Int} (h0 : 0 ≤ n) (h1 : n < (m : Int)) : (((rngV 0 m).filter fun _ => true).map fv)[n.toNat]? = some (fv (.int n)) := by
  rw [List.filter_eq_self.mpr (fun _ _ => rfl), List.getElem?_map, rngV_at (by omega)]
  show some (fv (V.int (0 + (n.toNat : Int)))) = _
  rw [show (0 : Int) + (n.toNat : Int) = n by omega]
theorem rng_mem {m : Nat} {x : V} (h : x ∈ rngV 0 m) : ∃ i : Nat, i < m ∧ x = .int (i : Int) := by
  obtain ⟨i, hi, e⟩ := List.mem_map.mp h
  exact ⟨i, List.mem_range.mp hi, by rw [← e, Int.zero_add]⟩
/-! ### texts -/
theorem es_eq : (Str.ofString "") = Str.empty := by decide +kernel
theorem es_app (a : Str) : (Str.ofString "") ++ a = a := by rw [es_eq]; exact Str.empty_append a
theorem app_es (a : Str) : a ++ (Str.ofString "") = a := by rw [es_eq]; exact Str.append_empty a
def Tr.txt : Tr → Str
  | .leaf n => Str.ofString (toString n) ++ "."
  | .node l r => "(" ++ l.txt ++ r.txt ++ ")"
def wT : Option Tr → Str
  | none => ")"
  | some t => t.txt
def wTs : List (Option Tr) → Str
  | [] => ""
  | x :: xs => wT x ++ wTs xs
def wDs : Option Tr → PyData
  | none => .str ")"
  | some t => t.dat
theorem lay_ws : ∀ ws : List (Option Tr), PyData.canLayAll0 (ws.map wDs) = true
  | [] => rfl
  | none :: ws => by
    have h : (PyData.str ")").canLay0 = true := by decide +kernel
    show ((PyData.str ")").canLay0 && PyData.canLayAll0 (ws.map wDs)) = true
    rw [h, lay_ws ws]
    rfl
  | some t :: ws => by
    show (t.dat.canLay0 && PyData.canLayAll0 (ws.map wDs)) = true
    rw [t.lay, lay_ws ws]
    rfl
theorem num_len {n : Int} (h0 : 0 ≤ n) (h1 : n < 100) : (Str.ofString (toString n)).length ≤ 2 := by
  obtain ⟨m, rfl⟩ : ∃ m : Nat, n = m := ⟨n.toNat, by omega⟩
  rw [TL.len_tl, TL.tl_num]
  exact TL.numL_len (by decide) (by omega)
theorem num_log {n : Int} (h0 : 0 ≤ n) (h1 : n < 100) : n.natAbs.log2 < 1920 := by
  have h := Nat.log2_le_self n.natAbs
  omega
theorem Tr.txt_len : ∀ t : Tr, (∀ n ∈ t.lets, 0 ≤ n ∧ n < 100) → t.txt.length + 2 ≤ 8 * t.lets.length
  | .leaf n, h => by
    obtain ⟨h0, h1⟩ := h n (List.mem_singleton.mpr rfl)
    have := num_len h0 h1
    show (Str.ofString (toString n) ++ ".").length + 2 ≤ 8 * 1
    rw [Str.length_append]
    have e : ("." : Str).length = 1 := rfl
    omega
  | .node l r, h => by
    have h1 := l.txt_len fun n hn => h n (List.mem_append_left _ hn)
    have h2 := r.txt_len fun n hn => h n (List.mem_append_right _ hn)
    show ("(" ++ l.txt ++ r.txt ++ ")").length + 2 ≤ 8 * (l.lets ++ r.lets).length
    rw [Str.length_append, Str.length_append, Str.length_append, List.length_append]
    have e1 : ("(" : Str).length = 1 := rfl
    have e2 : (")" : Str).length = 1 := rfl
    omega
def spText : Sp := fun vs H Q _ => ∃ v t, vs = [v] ∧ Dt H v t.dat ∧ Tr.sz t ≤ 10000 ∧ (∀ n ∈ t.lets, 0 ≤ n ∧ n < 100) ∧ ∀ H', Same H H' → Q (.str t.txt) H'
def rStr (n : Nat) (x : V) : Prop := ∃ z, x = .str z ∧ z.length + 2 ≤ 8 * n
def gJoin : V → V → V
  | .str a, .str b => .str ("(" ++ a ++ b ++ ")")
  | _, _ => .non
theorem gJoin_ok (n m : Nat) (x y : V) (h1 : rStr n x) (h2 : rStr m y) : rStr (n + m) (gJoin x y) := by
  obtain ⟨a, rfl, ha⟩ := h1
  obtain ⟨b, rfl, hb⟩ := h2
  refine ⟨_, rfl, ?_⟩
  rw [Str.length_append, Str.length_append, Str.length_append]
  have e1 : ("(" : Str).length = 1 := rfl
  have e2 : (")" : Str).length = 1 := rfl
  omega
/-! ### values -/
def Tr.ev (vals : List V) (g : V → V → V) : Tr → V
  | .leaf n => vals.getD n.toNat .non
  | .node l r => g (l.ev vals g) (r.ev vals g)
/-- an operation on values that are no objects; R n: a value of n letters -/
def spOpn (N : Nat) (R : Nat → V → Prop) (g : V → V → V) : Sp := fun vs H Q _ => ∃ x y n m, vs = [x, y] ∧ R n x ∧ R m y ∧ n + m ≤ N ∧ ∀ H', Same H H' → Q (g x y) H'
def spTurn : Sp := fun vs H Q _ => ∃ v t, vs = [v] ∧ Dt H v t.dat ∧ Tr.sz t ≤ 10000 ∧ ∀ a H', H a = none → Same H H' → Dt H' (.ref a) (.list (t.post.map oD)) → Q (.ref a) H'
def spLets : Sp := fun vs H Q _ => ∃ v t, vs = [v] ∧ Dt H v t.dat ∧ Tr.sz t ≤ 10000 ∧ ∀ a H', H a = none → Same H H' → Dt H' (.ref a) (.list (t.lets.map PyData.int)) → Q (.ref a) H'
def spVal (P : Program) (w : World) (K : PySem.W.Frag) (mg : Str → Option Value) (base : Heap) (k : Nat) : Sp := fun vs H Q _ => ∃ v a f t vals g R N, vs = [v, .ref a, .ref f] ∧ Dt H v t.dat ∧ Tr.sz t ≤ 10000 ∧ H a = some (.lst vals) ∧ OpAt P w K mg base k f (spOpn N R g) H ∧
  (∀ n m x y, R n x → R m y → R (n + m) (g x y)) ∧ (∀ n ∈ t.lets, 0 ≤ n ∧ ∃ x, vals[n.toNat]? = some x ∧ R 1 x) ∧ t.lets.length ≤ N ∧ ∀ H', Same H H' → Q (t.ev vals g) H'
def spPick : Sp := fun vs H Q _ => ∃ p c o t ds, vs = [.ref p, o] ∧ PenOk H p c t ∧ t ≤ 900000000 ∧ Dt H o (.list ds) ∧ 0 < ds.length ∧ ds.length ≤ 900 ∧ ∀ v H' d, d ∈ ds → Dt H' v d → PenOk H' p c (t + 1) → But p H H' → Q v H'
theorem ev_txt {vals : List V} : ∀ t : Tr, (∀ n ∈ t.lets, vals[n.toNat]? = some (.str (Str.ofString (toString n) ++ "."))) → t.ev vals gJoin = .str t.txt
  | .leaf n, h => by
    show vals.getD n.toNat .non = _
    rw [List.getD_eq_getElem?_getD, h n (List.mem_singleton.mpr rfl)]
    rfl
  | .node l r, h => by
    show gJoin (l.ev vals gJoin) (r.ev vals gJoin) = _
    rw [ev_txt l fun n hn => h n (List.mem_append_left _ hn), ev_txt r fun n hn => h n (List.mem_append_right _ hn)]
    rfl
/-! sums, the first letter -/
def rInt (_ : Nat) (x : V) : Prop := ∃ i, x = .int i
def gAdd : V → V → V
  | .int a, .int b => .int (a + b)
  | _, _ => .non
def gFst : V → V → V := fun x _ => x
theorem ev_sum {vals : List V} (nm : Int → Int) : ∀ t : Tr, (∀ n ∈ t.lets, vals[n.toNat]? = some (.int (nm n))) → t.ev vals gAdd = .int (t.lets.map nm).sum
  | .leaf n, h => by
    show vals.getD n.toNat .non = .int (nm n + 0)
    rw [List.getD_eq_getElem?_getD, h n (List.mem_singleton.mpr rfl), Int.add_zero]
    rfl
  | .node l r, h => by
    show gAdd (l.ev vals gAdd) (r.ev vals gAdd) = .int ((l.lets ++ r.lets).map nm).sum
    rw [ev_sum nm l fun n hn => h n (List.mem_append_left _ hn), ev_sum nm r fun n hn => h n (List.mem_append_right _ hn), List.map_append, List.sum_append_int]
    rfl
theorem ev_fst {vals : List V} : ∀ t : Tr, ∃ n, t.lets[0]? = some n ∧ t.ev vals gFst = vals.getD n.toNat .non
  | .leaf n => ⟨n, rfl, rfl⟩
  | .node l r => by
    obtain ⟨n, h1, h2⟩ := ev_fst (vals := vals) l
    refine ⟨n, ?_, h2⟩
    show (l.lets ++ r.lets)[0]? = some n
    rw [List.getElem?_append_left l.lets_pos]
    exact h1
/-- bracketed at drawn places -/
def spBrk : Sp := fun vs H Q _ => ∃ p c v t ns, vs = [.ref p, v] ∧ PenOk H p c t ∧ t ≤ 800000000 ∧ Dt H v (.list (ns.map PyData.int)) ∧ 0 < ns.length ∧ ns.length ≤ 300 ∧
  ∀ (v' : V) (H' : Hp) (b : Tr), b.lets = ns → Dt H' v' b.dat → PenOk H' p c (t + ns.length) → But p H H' → Q v' H'
def spComb : Sp := fun vs H Q _ => ∃ (v : V) (way : Int) (ns : List Int), vs = [v, .int way] ∧ Dt H v (.list (ns.map PyData.int)) ∧ 0 < ns.length ∧ ns.length ≤ 1000 ∧ ∀ (v' : V) (H' : Hp) (b : Tr), b.lets = ns → Same H H' → Dt H' v' b.dat → Q v' H'
end Fp

/-! a text times 0, 1 or 2 -/
namespace Fp
open PySem PySem.Spec PyProof.Rows L2
/-- no sign of the text is past the last one -/
def OkS (w : Str) : Prop := (PyData.str w).canLay0 = true
instance (w : Str) : Decidable (OkS w) := inferInstanceAs (Decidable ((PyData.str w).canLay0 = true))
theorem okS_iff {w : Str} : OkS w ↔ ∀ c ∈ w.cps.toList, c < 1114112 := by
  have e : (PyData.str w).canLay0 = w.cps.all fun c => decide (c < 1114112) := by
    unfold PyData.canLay0
    rfl
  unfold OkS
  rw [e, ← Array.all_toList, List.all_eq_true]
  exact ⟨fun h c hc => of_decide_eq_true (h c hc), fun h c hc => decide_eq_true (h c hc)⟩
theorem okS_app {a b : Str} (ha : OkS a) (hb : OkS b) : OkS (a ++ b) := okS_iff.mpr fun c hc => by
  have e : (a ++ b).cps.toList = a.cps.toList ++ b.cps.toList := by
    show (a.cps ++ b.cps).toList = _
    rw [Array.toList_append]
  rw [e] at hc
  rcases List.mem_append.mp hc with h | h
  · exact okS_iff.mp ha c h
  · exact okS_iff.mp hb c h
theorem okS_one {c : Nat} (h : c < 1114112) : OkS ⟨#[c]⟩ := okS_iff.mpr fun x hx => by
  have : x = c := by simpa using hx
  omega
theorem okS_at {z : Str} (h : OkS z) {j : Nat} {c : Nat} (hj : z.cps.toList[j]? = some c) : OkS ⟨#[c]⟩ := okS_one (okS_iff.mp h c (List.mem_of_getElem? hj))
section
variable {X : Cx}
/-- which text it is, is not told, but that it is short -/
def rMulS : R2 := fun x y H Q => ∃ z n, x = .str z ∧ y = .int n ∧ 0 ≤ n ∧ n < 3 ∧ z.length ≤ 100 ∧ OkS z ∧ ∀ r : Str, r.length ≤ 200 → OkS r → Q (.str r) H
theorem op_mulS : OpR X (binaryOp .Mult) rMulS := by
  intro pins s σ H x y v u Q I rx ry h
  obtain ⟨z, n, rfl, rfl, h0, h1, hz, ok, q⟩ := h
  obtain ⟨t, rfl⟩ := rx
  obtain ⟨t', rfl⟩ := ry
  have hn : n = 0 ∨ n = 1 ∨ n = 2 := by omega
  rcases hn with rfl | rfl | rfl
  · exact PySem.P.mul_str_none (by decide) (by decide) ⟨.str _, H, I.tok _, ⟨_, rfl⟩, q _ (by decide) (by decide +kernel)⟩
  · refine PySem.P.mul_str (by decide) (fun _ e => by cases e) (fun _ e => by cases e) ?_
    show (Made.val (.str z t)).post _ s
    exact ⟨.str z, H, I, ⟨_, rfl⟩, q _ (by omega) ok⟩
  · refine PySem.P.mul_str (by decide) (fun _ _ => by omega) (fun _ _ => ?_) ?_
    · unfold Builtin.Str.tooLong
      have : z.length * (2 : Int).toNat ≤ 200 := by
        show z.length * 2 ≤ 200
        omega
      have big : 200 ≤ sizeLine := by decide
      exact decide_eq_false (by omega)
    · by_cases h0 : z.length = 0
      · have e : ((2 : Int) == 1 || z.length == 0) = true := by rw [h0]; rfl
        rw [if_neg (by decide), if_pos e]
        exact ⟨.str z, H, I, ⟨_, rfl⟩, q _ (by omega) ok⟩
      · have e : ((2 : Int) == 1 || z.length == 0) = false := by
          have : (z.length == 0) = false := by simpa using h0
          rw [this]
          rfl
        rw [if_neg (by decide), e, if_neg (by decide)]
        have l2 : (((#[] : Array Nat) ++ z.cps) ++ z.cps).size ≤ 200 := by
          have : z.cps.size = z.length := rfl
          rw [Array.size_append, Array.size_append]
          show 0 + z.cps.size + z.cps.size ≤ 200
          omega
        have l3 : OkS ⟨((#[] : Array Nat) ++ z.cps) ++ z.cps⟩ := okS_iff.mpr fun c hc => by
          have : c ∈ z.cps.toList := by
            have h : c ∈ (((#[] : Array Nat) ++ z.cps) ++ z.cps).toList := hc
            rw [Array.toList_append, Array.toList_append] at h
            rcases List.mem_append.mp h with h | h
            · rcases List.mem_append.mp h with h | h
              · exact absurd h (by simp)
              · exact h
            · exact h
          exact okS_iff.mp ok c this
        exact ⟨Nat.le_trans l2 (by decide), ⟨.str _, H, I.tok _, ⟨_, rfl⟩, q _ l2 l3⟩⟩
end
end Fp

/-! try with several clauses that name what they catch -/
namespace Fp
open PySem PySem.Spec PyProof.Rows L2
/-- a clause: its class, the slot of its name, its suite -/
abbrev Cl1 := Value × Nat × (Addr → Value → Option Addr → TS)
def endsBut (i : Nat) (D : Ends) : Ends :=
  { nx := fun σ H => D.nx (σ.set i none) H
    rt := D.rt
    bk := fun σ H => D.bk (σ.set i none) H
    ct := fun σ H => D.ct (σ.set i none) H }
def wCls (K : PySem.W.Frag) (Wout : WX) (D : Ends) : List Cl1 → WX
  | [] => Wout
  | (c, i, ts) :: r => fun cls d σ H => ∃ b, PySem.W.exmOne K cls c = some b ∧
      (b = true → ∀ a, H a = none → ts a cls d (endsBut i D) (σ.set i (some (.ref a))) H) ∧ (b = false → wCls K Wout D r cls d σ H)
inductive ClsOk (X : Cx) : List ExceptHandler → List Cl1 → Prop
  | nil : ClsOk X [] []
  | cons {x n : Str} {c : Value} {i : Nat} {ts : Addr → Value → Option Addr → TS} {b0 : Stmt} {su : List Stmt} {p1 p2 : Pos} {hds : List ExceptHandler} {l : List Cl1}
      (hi : X.N[i]? = some n) (hl : X.env.kindOf n = some .local) (hc : Names X x c)
      (hsu : ∀ (a : Addr) (oe : Obj) (cls : Value) (d : Option Addr) (pn : List (Addr × Obj)), Zc cls d oe → (∃ vs, oe.data = .fields vs) → PSs (X.suite a ((a, oe) :: pn)) (b0 :: su) (ts a cls d))
      (r : ClsOk X hds l) : ClsOk X (.ExceptHandler (some (.Name x p1)) (some n) (b0 :: su) p2 :: hds) ((c, i, ts) :: l)
section
variable {X : Cx} {body : List Stmt} {h0 : ExceptHandler} {hds : List ExceptHandler} {l : List Cl1} {pos : Pos} {tb : WX → TS} {Wout : WX}
theorem ps_try_cl (hs : X.stack = X.env :: X.outer) (hf : X.env.frame = some X.env.locals) (hN : X.N.Nodup) (tk : Takes X Wout)
    (hb : ∀ (W : WX) (pn : List (Addr × Obj)) (xe : Value → Shared → Prop), Takes (X.tr pn xe) W → PassesOwn (model X.prog X.w) X.A X.env xe → PSs (X.tr pn xe) body (tb W))
    (hh : ClsOk X (h0 :: hds) l) : PS X (.Try body (h0 :: hds) [] [] pos) (fun D σ H => tb (wCls X.K Wout D l) D σ H) := by
  refine ⟨fun pins s σ H D I h => ?_⟩
  have okX := I.ok
  have frX : X.A.frames = some (X.env :: X.outer) := by
    rw [okX.frames, hs]
  refine wpAny_Try_except ?_
  refine wpAny_mono ((hb (wCls X.K Wout D l) (X.pn ++ pins) (fun e s1 =>
      wpAny (model X.prog X.w) X.A (noteFrame e X.env) (fun _ s2 =>
        wpAny (model X.prog X.w) X.A (setFlight e none) (fun _ s3 =>
          wpAny (model X.prog X.w) X.A (handleBy e X.env (h0 :: hds)) (SP X pins D) X.xe s3) X.xe s2) X.xe s1)
      (fun u sx inAir => ?_) PassesOwn.looking).run [] s σ H D (I.toTry _) h) (fun f s1 hsp => ?_) (fun e s1 he => he)
  · obtain ⟨a, B, sJ, pinsA, σA, HA, cls, d, rfl, JA, nbA, upA, skyA, naA, osA, agA, wA⟩ := inAir
    have J : Inv X pins σA HA sJ := JA.ofTry okX
    have sky2 : Sky B (X.env :: X.outer) a (Zc cls d) X.env.locals sx.heap := by
      rw [← hs]
      exact skyA
    show wpAny (model X.prog X.w) X.A (noteFrame (.ref a) X.env) _ _ _
    refine Sky.land Zc.steady frX hf sky2 fun hp fl up => ?_
    have JL : Inv X pins σA HA { sx with heap := hp } := J.landed nbA fl.1 (upA.trans up) osA agA
    obtain ⟨oe, fv, hoe, hzc, hdt⟩ := fl.there
    have noFrame : ∀ {hq : Heap} {o : Obj} {vq : Array Value}, hq.FunFrames B (X.env :: X.outer) → hq.get? a = some o → o.data = .fields vq → a ∉ frs (X.env :: X.outer) := fun {hq o vq} ff e dd hm => by
      obtain ⟨_, o2, e2, hnf⟩ := ff.mem hm
      rw [e] at e2
      cases e2
      exact hnf _ dd
    have nfr := noFrame fl.2.2.1 hoe hdt
    have nLoc : a ≠ X.env.locals := fun z => nfr (List.mem_filterMap.mpr ⟨X.env, List.mem_cons_self, by rw [hf, z]⟩)
    have nFs : a ∉ X.fs := fun hm => by
      obtain ⟨e, he, q⟩ := List.mem_filterMap.mp hm
      exact nfr (List.mem_filterMap.mpr ⟨e, List.mem_cons_of_mem _ he, q⟩)
    have SL := JL.suite hoe hdt naA nLoc nFs
    have go : ∀ {hs2 : List ExceptHandler} {l2 : List Cl1}, ClsOk X hs2 l2 → wCls X.K Wout D l2 cls d σA HA →
        wpAny (model X.prog X.w) X.A (handleBy (.ref a) X.env hs2) (SP X pins D) X.xe { sx with heap := hp } := by
      intro hs2 l2 hk
      induction hk with
      | nil =>
        intro w
        refine wpAny_handleBy_nil ?_
        obtain ⟨k1, k2, k3, oe2, vs2, T, oT, ts2, he2, hz2, hd2, hv1, hr2⟩ := id fl
        unfold PySem.passOn
        refine wpAny_bind (wpAny_field he2 hd2 hv1 ?_)
        rw [if_neg (show ¬ ((Value.ref T == Value.none) = true) by simp)]
        have fin : wpAny (model X.prog X.w) X.A (setFlight (.ref a) X.env.frame) (fun _ s4 =>
            wpAny (model X.prog X.w) X.A (throw (.ref a) : Sem Flow) (SP X pins D) X.xe s4) X.xe { sx with heap := hp } := by
          rw [hf]
          refine HandSPX.setFlight_upZ fl fun h4 hh4 up4 => wpAny_throw (tk _ _ ?_)
          refine ⟨a, B, sJ, pins, σA, HA, cls, d, rfl, J, nbA, (upA.trans up).trans up4, .inr (.inr ?_), naA, osA, agA, w⟩
          rw [hs]
          exact hh4
        first
          | exact wpAny_bind (wpAny_pure (wpAny_bind fin))
          | exact wpAny_bind fin
      | @cons x n c i ts b0 su p1 p2 hds2 l2 hi hl hc hsu r ih =>
        intro w
        obtain ⟨b, hb1, hyes, hno⟩ := w
        have hloc : Loc X.env.scope n := .inl hl
        refine wpAny_handleBy_cons (codeAny_handlers_test ?_) (by intro q; cases q)
        have LT : PySem.W.Looks (model X.prog X.w) hp (typeOf (.ref a)) cls := fun A2 Q2 E2 s2 k q =>
          wpAny_typeOf_ref (k _ _ hoe) (by rw [hzc.1]; exact q)
        have LM := PySem.W.exm_one (M := model X.prog X.w) JL.kIn LT hb1
        have test : ∀ {Q2 E2 : Value → Shared → Prop}, Q2 c { sx with heap := hp } →
            wpAny (model X.prog X.w) (X.A.mark (some (.ref a))) (eval (.Name x p1) X.env) Q2 E2 { sx with heap := hp } := fun {Q2 E2} q => by
          obtain ⟨g1, g2, g3 | ⟨g3, g4, g5⟩⟩ := hc
          · exact ld_glob (X := X.suite a ((a, oe) :: (X.pn ++ pins))) SL g1 g3 q g2
          · exact ld_blt (X := X.suite a ((a, oe) :: (X.pn ++ pins))) SL g1 g3 g4 q g5 g2
        refine test (LM.here ?_)
        cases b with
        | true =>
          refine codeAny_handlers_suite_as ?_
          refine HandSPX.lands_againZ fl fun h4 fl4 up4 => ?_
          have J4 : Inv X pins σA HA { sx with heap := h4 } := J.landed nbA fl4.1 ((upA.trans up).trans up4) osA agA
          obtain ⟨oe4, fv4, hoe4, hz4, hd4⟩ := fl4.there
          have S4 := J4.suite hoe4 hd4 naA nLoc nFs
          refine store_ok (X := X.suite a ((a, oe4) :: (X.pn ++ pins))) (v := .ref a) S4 hN hi hloc rfl (fun s5 S5 => ?_) (.inr hl)
          refine wpAny_mono ((hsu a oe4 cls d (X.pn ++ pins) hz4 ⟨_, hd4⟩).run [] s5 _ HA _ S5 (hyes rfl a naA)) (fun f s6 hsp => ?_) (fun _ _ z => False.elim z)
          have close : ∀ {σ6 : L2.St} {H6 : Hp} {Q6 : Shared → Prop}, Inv (X.suite a ((a, oe4) :: (X.pn ++ pins))) [] σ6 H6 s6 →
              (∀ s7, Inv X pins (σ6.set i none) H6 s7 → Q6 s7) →
              wpAny (model X.prog X.w) X.A (do bindName X.env n .none; unbindBehindTheSuite X.env n p2) (fun _ s7 => Q6 s7) X.xe s6 :=
            fun {σ6 H6 Q6} S6 hq => gone_ok (S6.unsuite okX) hN hi hl hq
          cases f with
          | next =>
            obtain ⟨σ6, H6, S6, q6⟩ := hsp
            exact close S6 fun s7 J7 => ⟨_, _, J7, q6⟩
          | brk =>
            obtain ⟨σ6, H6, S6, q6⟩ := hsp
            exact close S6 fun s7 J7 => ⟨_, _, J7, q6⟩
          | cont =>
            obtain ⟨σ6, H6, S6, q6⟩ := hsp
            exact close S6 fun s7 J7 => ⟨_, _, J7, q6⟩
          | ret u =>
            obtain ⟨v6, σ6, H6, S6, r6, q6⟩ := hsp
            exact close S6 fun s7 J7 => ⟨_, _, _, J7, r6, q6⟩
        | false =>
          show wpAny _ X.A (handleBy (.ref a) X.env hds2) _ _ _
          exact ih (hno rfl)
    exact go hh wA
  · cases f with
    | next =>
      obtain ⟨σ2, H2, J2, q⟩ := hsp
      exact wpAny_execs_nil ⟨σ2, H2, J2.ofTry okX, q⟩
    | brk =>
      obtain ⟨σ2, H2, J2, q⟩ := hsp
      exact ⟨σ2, H2, J2.ofTry okX, q⟩
    | cont =>
      obtain ⟨σ2, H2, J2, q⟩ := hsp
      exact ⟨σ2, H2, J2.ofTry okX, q⟩
    | ret u =>
      obtain ⟨v, σ2, H2, J2, r, q⟩ := hsp
      exact ⟨v, σ2, H2, J2.ofTry okX, r, q⟩
end
end Fp
namespace Fp
open PySem PySem.Spec PySem.Calls PyProof.Rows PySem.W
section
variable {prog : Program} {w : World} {A : Around} {E : Value → Shared → Prop} {s : Shared} {K : Frag} {x D : Addr} {ox : Obj} {od : Option Obj}
/-- __class__ of an instance of an own exception class, whatever its dict -/
theorem exc_class {Q : Option Value → Shared → Prop} (C : L2.ExcC K D) (X : K.In s.heap) (I : InstAt s.heap x ox D od) (h : Q (some (.ref D)) { s with toks := s.toks + 1 }) :
    wpAny (model prog w) A (getAttr? (.ref x) "__class__") Q E s := by
  have hcls : (clsIn K D).isSome = true := by
    obtain ⟨cd, hc, _⟩ := any_some C.hd
    rw [hc]
    rfl
  have hf : findObj K D od "__class__" = some (.bind (.builtin "getset_descriptor.__get__") (.builtin "object.__class__")) := by
    cases od with
    | none => exact findObj_dataN hcls C.ha C.hn C.ht
    | some o => exact findObj_data hcls C.ha C.hn C.ht
  obtain ⟨hp, g, d, t, os⟩ := s
  have T0 := I.type (M := model prog w)
  have T1 := looks_findIn (M := model prog w) X C.hg
  have T2 := looks_findIn (M := model prog w) X C.hk
  have T3 := looks_find (M := model prog w) X I hf
  have isB : Looks (model prog w) hp (isInstance (.ref x) (.type "BaseException")) true :=
    T0.andThen (looks_subIn X C.hs)
  have z0 : (false && onTheHeap (Value.builtin "BaseException.__getattribute__")) = false := by rfl
  have z1 : (onTheHeap (Value.ref D) && Value.builtin "BaseException.__getattribute__" ==
      Value.builtin "object.__getattribute__") = false := by
    have : (Value.builtin "BaseException.__getattribute__" ==
      Value.builtin "object.__getattribute__") = false := by decide +kernel
    rw [this]
    rfl
  unfold getAttr? getAttrBy? getAttrBy
  refine wpAny_bind (wpAny_mkText (wpAny_bind (wpAny_attempt (wpAny_holding (wpAny_bind
    (T0.at (wpAny_bind (T1.at ?_))))))))
  show wpAny _ _ (if (onTheHeap (Value.ref D) && Value.builtin "BaseException.__getattribute__" ==
    Value.builtin "object.__getattribute__") = true then _ else _) _ _ _
  rw [z1, if_neg (by decide)]
  unfold getAttrByItsOwn hookBefore
  refine wpAny_bind ?_
  rw [if_pos (show onTheHeap (Value.ref D) = true by rfl)]
  refine T2.at ?_
  refine wpAny_bind (wpAny_attempt (wpAny_holding ?_))
  unfold callGetattribute
  rw [z0, if_neg (by decide)]
  unfold boundAndCalled
  rw [PySem.F.excAttr_ValueError.ga.bind (Value.ref x)]
  refine wpAny_bind (wpAny_pure ?_)
  show wpAny _ _ (call (.builtin "BaseException.__getattribute__")
    [.ref x, .str "__class__" t]) _ _ _
  refine wpAny_call (codeAny_call_builtin PySem.F.excAttr_ValueError.ga.plain
    PySem.F.entry_bexc_ga ?_)
  refine @check_slot (model prog w) _ _ ⟨hp, g, d, t + 1, os⟩ "BaseException.__getattribute__" "BaseException"
    "__getattribute__" (.ref x) [.str "__class__" t] [] _ (by decide +kernel) (by decide +kernel) isB
    (PySem.F.args_bexc_ga (.ref x) (.str "__class__" t)) ?_
  unfold Builtin.«object.__getattribute__»
  refine wpAny_bind (wpAny_of_eq (a := ((Value.ref x : Value), [Value.str "__class__" t]))
    (by first | rfl | (simp only [slotArgs]; rfl)) ?_)
  refine wpAny_bind (wpAny_pure (wpAny_bind (T0.at (wpAny_bind (T3.at ?_)))))
  show wpAny _ _ (holding [Value.builtin "object.__class__"] (call (.builtin "getset_descriptor.__get__")
    [.builtin "object.__class__", .ref x, .ref D]) >>= ret) _ _ _
  refine wpAny_bind (wpAny_holding (wpAny_call (class_get (s := ⟨hp, g, d, t + 1, os⟩)
    (ox := ox) (od := od) X I C.hm ?_)))
  refine wpAny_pure ?_
  show wpAny _ _ (handedOut (.ref D)) _ _ _
  rw [handedOut_of (v := Value.ref D) (by rfl)]
  first
    | exact wpAny_pure (wpAny_pure h)
    | exact wpAny_pure h
    | exact wpAny_pure (wpAny_bind (wpAny_pure (wpAny_pure h)))
/-- isinstance may be asked of it -/
theorem kit_exc (C : L2.ExcC K D) : KitX K (.ref x) (.ref D) (fun h => ∃ od, InstAt h x ox D od) where
  ty := fun _ _ _ ⟨_, I⟩ => I.type
  it := fun _ _ X _ => by
    obtain ⟨cdD, hcD, _⟩ := any_some C.hd
    unfold clsIn at hcD
    split at hcD
    · rename_i c1 d1 cd1 sl1 ho
      intro A2 Q2 E2 s2 k q
      unfold isType loadHead
      exact wpAny_bind (wpAny_loadPart (k _ _ (X _ _ ho))
        (wpAny_pure q))
    · cases hcD
  ne := fun h tp dd its n sl X htp => by
    obtain ⟨cdD, hcD, _⟩ := any_some C.hd
    refine Bool.eq_false_iff.mpr fun q => ?_
    obtain rfl : D = tp := Value.ref.inj (beq_iff_eq.mp q)
    unfold clsIn at hcD
    split at hcD
    · rename_i c1 d1 cd1 sl1 ho
      have z := (X _ _ ho).symm.trans htp
      cases z
    · cases hcD
  ca := fun X ⟨od, I⟩ k => exc_class (od := od) C X I k
end
end Fp
namespace Fp
open PySem PySem.Spec PyProof.Rows L2
/-- isinstance(e, c), e the exception that the suite holds, d its dict -/
def rIsX (K : PySem.W.Frag) (a : Addr) (cls : Value) (d : Option Addr) : List V → Hp → VK → Prop := fun xs H Q => ∃ (c : V) (cv : Value) (b : Bool) (D : Addr), xs = [.ref a, c] ∧ cls = .ref D ∧ (∀ u, RelV c u → u = cv) ∧ PySem.W.kitOne K (.ref D) cv = some b ∧ ExcC K D ∧ (∀ dd, d = some dd → ∃ fs, H dd = some (.xd fs)) ∧ Q (.bl b) H
theorem call_isX {X : Cx} {K : PySem.W.Frag} {a : Addr} {d : Option Addr} {oe : Obj} {cls : Value} {pn : List (Addr × Obj)} (hz : Zc cls d oe) (hf : ∃ vs, oe.data = .fields vs) (hK : X.K = K := by rfl) :
    CallR (X.suite a ((a, oe) :: pn)) (.builtin "isinstance") (rIsX K a cls d) := by
  subst hK
  intro pins s σ H xs us Q I r h
  obtain ⟨c, cv, b, D, rfl, rfl, hcv, e, C, hd, q⟩ := h
  cases r with
  | cons rx rr =>
    cases rr with
    | cons rt rr =>
      cases rr
      cases rx
      have ec := hcv _ rt
      subst ec
      obtain ⟨hget, _⟩ := I.pin (a, oe) (List.mem_append_left _ List.mem_cons_self)
      obtain ⟨vs, hv⟩ := hf
      have J : ∃ od, PySem.W.InstAt s.heap a oe D od := by
        obtain ⟨h1, h2⟩ := hz
        cases d with
        | none =>
          refine ⟨none, hget, h1, by unfold PySem.W.notCls; rw [hv] <;> rfl, ?_⟩
          rw [h2]
          trivial
        | some dd =>
          obtain ⟨fs, hdd⟩ := hd dd rfl
          obtain ⟨mA, hns, _⟩ : ObjOk X.prog X.w H s.heap dd (.xd fs) := I.hok dd _ hdd
          obtain ⟨od, ho, _⟩ := lookIn_ns hns
          refine ⟨some od, hget, h1, by unfold PySem.W.notCls; rw [hv] <;> rfl, ?_⟩
          rw [h2]
          exact ho
      exact PySem.W.kia_one (kit_exc C) I.kIn J e (fun z => nomatch z) fun tk => ⟨.bl b, H, I.kept (t' := tk) fun _ _ z => z, rfl, q⟩
end Fp

/-! own exceptions made as values; super().__init__() in their __init__ -/
namespace Fp
open PySem PySem.Spec PySem.Calls PyProof.Rows PySem.W
/-- the body super().__init__() -/
def supBody (p1 p2 p3 p4 p5 : Pos) : List Stmt := [.Expr (.Call (.Attribute (.Call (.Name "super" p1) [] [] p2) "__init__" p3) [] [] p4) p5]
/-- what the written part says of such a class, at C, and of its __init__ -/
structure SupC (K : Frag) (prog : Program) (C fI : Addr) : Prop where
  fn : ∃ (oc : Value) (od : Option Addr) (params : Arguments) (scope : Scope) (dV kV doc pm ct cl ccl : Value) (an cld cdd : Option Addr) (osl csl ccs : Array (Option Value)) (cc cda : Addr) (q : Str) (p1 p2 p3 p4 p5 : Pos) (vs : Array Value) (file : Str) (tf : Tok) (ar : Arg),
    K.lookup fI = some ⟨oc, od, .func (ksFn "__init__" q params (supBody p1 p2 p3 p4 p5) scope dV kV doc pm an (.ref cda) ct cc), osl⟩ ∧
    codeIn K (.ref cda) q = true ∧ K.lookup cc = some ⟨cl, cld, .cell (some (.ref C)), csl⟩ ∧
    K.lookup cda = some ⟨ccl, cdd, .fields vs, ccs⟩ ∧ vs[2]? = some (.str file tf) ∧ ((prog.main.file : Str) == file) = true ∧
    scope.kind = .function ∧ scope.isCoroutine = false ∧ scope.isGenerator = false ∧ (∀ x ∈ scope.names, x.2 ≠ .cell) ∧
    scope.names.lookup ("super" : Str) = some .globalImplicit ∧ scope.names.lookup ("__class__" : Str) = some .free ∧ scope.names.lookup ("self" : Str) = some .local ∧
    (params.posonlyargs ++ params.args).head? = some ar ∧ ar.arg = ("self" : Str) ∧
    (∀ L : Addr, ∃ pl : Sem Bool, eval (.Call (.Attribute (.Call (.Name "super" p1) [] [] p2) "__init__" p3) [] [] p4) (callEnv (ksFn "__init__" q params (supBody p1 p2 p3 p4 p5) scope dV kV doc pm an (.ref cda) ct cc) L fI) = (do
      let ov ← attributeBase (.Call (.Name "super" p1) [] [] p2) "__init__" (callEnv (ksFn "__init__" q params (supBody p1 p2 p3 p4 p5) scope dV kV doc pm an (.ref cda) ct cc) L fI) (eval (.Call (.Name "super" p1) [] [] p2) (callEnv (ksFn "__init__" q params (supBody p1 p2 p3 p4 p5) scope dV kV doc pm an (.ref cda) ct cc) L fI))
      standAt p3.atName
      let (f, first) ← holding [ov] (getMethod ov "__init__" pl)
      callWith p4 f first (backTo p4 (starEach [] (callEnv (ksFn "__init__" q params (supBody p1 p2 p3 p4 p5) scope dV kV doc pm an (.ref cda) ct cc) L fI))) [])) ∧
    (∀ L : Addr, interactive (callEnv (ksFn "__init__" q params (supBody p1 p2 p3 p4 p5) scope dV kV doc pm an (.ref cda) ct cc) L fI) = false) ∧
    (∀ L : Addr, swapsWith (.Call (.Attribute (.Call (.Name "super" p1) [] [] p2) "__init__" p3) [] [] p4) none p5.line (callEnv (ksFn "__init__" q params (supBody p1 p2 p3 p4 p5) scope dV kV doc pm an (.ref cda) ct cc) L fI) = pure false) ∧
    (∀ u : Value, bindArgs (ksFn "__init__" q params (supBody p1 p2 p3 p4 p5) scope dV kV doc pm an (.ref cda) ct cc) ⟨[u], []⟩ = pure [(("self" : Str), u)])
  top : (prog.main.scope.names.lookup ("super" : Str)).isSome = false
  opq : nsIn K cStatics "thirdparty.any" = some none
  up : ks_superIn K C C "__init__" = some (some (.builtin "ValueError.__init__"))
  ve : subIn K (.ref C) (.type "ValueError") = some true
  me : mroIn K C (.ref C) = some true
section
variable {prog : Program} {w : World} {A : Around} {K : Frag} {mg : Str → Option Value} {base : Heap} {C fI e t0 : Addr} {R : Result → Shared → Prop} {h : Heap} {g : Array GenState} {d : Drawn} {t : Nat} {os : OsState}
theorem run_sup (S : SupC K prog C fI) (T : L2.OexC K C) (M : L2.Mod K mg base) (hs : mg "super" = none) (kb : ∀ b o, base.get? b = some o → h.get? b = some o) (hr : A.depth < recursionLimit)
    (he : h.get? e = some (HandSPX.excO C t0))
    (hq : ∀ h' t1 t', (∀ b o, b ≠ e → h.get? b = some o → h'.get? b = some o) → h'.get? e = some (HandSPX.excO C t1) → R (.ok (.ret .none)) ⟨h', g, d, t', os⟩) :
    codeAny (model prog w) A (.call (.ref fI) ⟨[.ref e], []⟩) R ⟨h, g, d, t, os⟩ := by
  obtain ⟨oc, od, params, scope, dV, kV, doc, pm, ct, cl, ccl, an, cld, cdd, osl, csl, ccs, cc, cda, q, p1, p2, p3, p4, p5, vs, file, tf, ar, hf, hcd, hcell, hcode, hvs, hfile, hk, hco, hgen, hnc, hks, hkc, hka, hp, har, hev, hit, hsw, hbind⟩ := S.fn
  obtain ⟨nm, qn, N, bs, bm, sn, sub, ab, col, dd, k0, k1, k2, k3, k5, hC, hbm⟩ := T.cls
  have hcl : clsIn K C = some { name := nm, bases := bs, mro := .ref C :: bm, ns := N, qualname := qn, hasDict := true, slotNames := sn, subclasses := sub, abstract := ab, collection := col, hasDel := false } := by
    unfold clsIn
    rw [hC] <;> rfl
  have Xh : K.In h := M.kin.keeps kb
  refine ks_codeAny_call_defAt (body := supBody p1 p2 p3 p4 p5) (binds := [(("self" : Str), .ref e)]) hr (Xh _ _ hf) rfl (M.nolimit.keeps kb) (codeRec_of Xh hcd) rfl (BindsTo.of_eq (hbind _)) hnc (fun x hx => ?_) (fun h1 hns hk1 => ?_) hco hgen hk
  · rw [List.mem_singleton.mp hx]
    exact hka
  · have X1 : K.In h1 := Xh.keeps hk1
    have he1 := hk1 _ _ he
    have glob1 : h1.Ns mainGlobals mg := M.glob.keeps fun b o z => hk1 _ _ (kb _ _ z)
    obtain ⟨mb, hmb, hbb⟩ := M.blt
    have blt1 : h1.Ns builtinsNs mb := hmb.keeps fun b o z => hk1 _ _ (kb _ _ z)
    obtain ⟨pl, hev⟩ := hev h.objs.size
    refine ks_wpAt_execs_cons (ks_wpAt_Expr_any (ks_wpAt_MethodCall (pl := pl) ?_ hev) (hit _) (hsw _))
    refine ks_wpAt_super_base (ar := ar) hks hkc (by decide) rfl (X1 _ _ hf) rfl hp rfl (X1 _ _ hcode) rfl hvs hfile S.top ?_
    refine ks_loadName_global hk hks (loadGlobal_builtin glob1 hs blt1 ((hbb _ (by decide)).trans (by decide +kernel)) ⟨rfl, ?_⟩)
    refine wpAny_loadName_free hk hkc rfl ⟨_, X1 _ _ hcell, rfl⟩ ?_
    rw [har]
    refine wpAny_loadName_local (v := .ref e) hk hka hns (by rfl) ?_
    refine ks_wpAny_isType_cls (X1 _ _ hC) rfl ⟨rfl, ?_⟩
    have Ie : InstAt h1 e (HandSPX.excO C t0) C none := ⟨he1, rfl, rfl, trivial⟩
    refine ks_wpAny_call_super (X1 _ _ hC) rfl he1 rfl (fun c z => nomatch z) (looks_mroIn X1 S.me) (fun h2 e2 k2 => ?_)
    have X2 : K.In h2 := X1.keeps k2
    have he2 := k2 _ _ he1
    have I2 : InstAt h2 e (HandSPX.excO C t0) C none := ⟨he2, rfl, rfl, trivial⟩
    have hI2 : Looks (model prog w) h2 (isInstance (.ref e) (.type "ValueError")) true := I2.type.andThen (looks_subIn X2 S.ve)
    have hup : alongIn K "__init__" (((Value.ref C :: bm).dropWhile (· != .ref C)).drop 1) = some (some (.builtin "ValueError.__init__")) := by
      have := S.up
      unfold ks_superIn at this
      rw [hcl] at this
      exact this
    refine kxs_getMethod kxs_ValueError e2 (looks_opaque X2 S.opq) (l₀ := .ref C :: bm) (fun A2 Q2 E2 s2 k q => wpAny_bind ((looks_clsIn X2 hcl) A2 _ E2 s2 k (wpAny_pure q))) rfl X2 hup hI2 (ks_ne X2 I2 hcl) (by decide) ?_
    have kP : ∀ b o, h2.get? b = some o → (h2.push (kxs_mw "ValueError.__init__" e)).get? b = some o := fun b o z => Heap.get?_push_of_some _ z
    have hu : (h2.push (kxs_mw "ValueError.__init__" e)).get? h2.objs.size = some (kxs_mw "ValueError.__init__" e) := Heap.get?_push_size _ rfl
    refine kxs_callWith (i := "ValueError.__init__") (x := e) rfl (evalArgs_empty ⟨hu, ?_⟩)
    have X3 : K.In (h2.push (kxs_mw "ValueError.__init__" e)) := X2.keeps kP
    have he3 := kP _ _ he2
    have FB := PySem.F.excBase_ValueError
    refine wpAny_call (codeAny_of_tree ?_)
    show wpAny _ _ (callAny (.ref h2.objs.size) ⟨[], []⟩) _ _ _
    simp only [callAny]
    refine wpAny_bind (wpAny_load hu ?_)
    have hmw : (Value.type "method-wrapper" == Value.type "method" || Value.type "method-wrapper" ==
      Value.type "builtin_function_or_method" || Value.type "method-wrapper" == Value.type "method-wrapper") = true := by decide
    simp only [kxs_mw, hmw, if_true]
    refine KFB.if_so (by decide) ?_
    refine wpAny_bind (check_bound_init FB.toExcCallFacts (X3 _ _ hC) he3 rfl ?_)
    refine wpAny_bind (wpAny_pure (wpAny_pure ?_))
    refine ⟨plainId_quiet FB.init.plain _, codeAny_builtin FB.initEntry ?_⟩
    refine exc_init_tree (cls := .ref C) (t0 := t0) (dv := none) (c2 := .none) (c3 := .none) (b4 := .bool false) he3 (Nat.zero_le _) (fun h4 k4 e4 t4 => ?_)
    refine wpAt_of_wpAny (wpAny_execs_nil ?_)
    exact hq _ _ _ (fun b o hb z => k4 b o hb (kP _ _ (k2 _ _ (hk1 _ _ z)))) e4
end
end Fp
namespace Fp
open PySem PySem.Spec PyProof.Rows L2
/-- an exception of the class C stands at a, with these attributes (the last one stored first) -/
def ExV (H : Hp) (a C : Addr) (fs : List (Str × V)) : Prop := (fs = [] ∧ H a = some (exo a C none)) ∨ ∃ dx, H a = some (exo a C (some dx)) ∧ H dx = some (exd dx fs)
theorem ExV.same {H H' : Hp} {a C : Addr} {fs : List (Str × V)} (h : ExV H a C fs) (e : Same H H') : ExV H' a C fs := by
  rcases h with ⟨h1, h2⟩ | ⟨dx, h1, h2⟩
  · exact .inl ⟨h1, e _ _ h2⟩
  · exact .inr ⟨dx, e _ _ h1, e _ _ h2⟩
/-- C(e, ..): its __init__ keeps sp -/
def tMkE (C : Addr) (sp : Sp) (ta : TA) : TE := fun σ H Q => ta σ H fun vs H1 => vs.length ≤ 1000 ∧ ∀ a, H1 a = none → sp (.ref a :: vs) (upd H1 a (exo a C none)) (fun v H2 => v = .non ∧ Q (.ref a) H2) C8.E0
/-- a class whose own __init__ is a def of the text -/
def Xn (P : Program) (w : World) (K : PySem.W.Frag) (mg : Str → Option Value) (base : Heap) (k : Nat) (C : Addr) (ps : List Str) (sp : Sp) : Prop :=
  ∃ fI fd, OexC K C ∧ PySem.W.findIn K (.ref C) "__init__" = some (some (.ref fI)) ∧ PySem.W.typeIn K (.ref fI) = some (.type "function") ∧ Binds K fd ps [] ∧ FnOk P w K mg base C8.CX0 k fI fd ps sp
/-- a class whose __init__ says super().__init__() -/
def Xs (K : PySem.W.Frag) (P : Program) (C : Addr) : Prop :=
  ∃ fI, OexC K C ∧ PySem.W.findIn K (.ref C) "__init__" = some (some (.ref fI)) ∧ PySem.W.typeIn K (.ref fI) = some (.type "function") ∧ SupC K P C fI
section
variable {X : Cx} {C : Addr} {k : Nat} {ps : List Str} {sp : Sp} {x : Str} {e : Expr} {es : List Expr} {p pos : Pos} {ta : TA}
theorem pkE (M : Xn X.prog X.w X.K X.mg X.base k C ps sp) (hr : Room (k + 1) X.A) (hg : Gl X x) (hm : X.mg x = some (.ref C)) (ha : PA X (e :: es) ta)
    (hdb : (x == ("__debug__" : Str)) = false := by decide) (he : starEach (e :: es) X.env = (false, eval e X.env) :: starEach es X.env := by rfl) (hpl : (backTo pos (starEach es X.env)).any (·.1) = false := by rfl) :
    PE X (.Call (.Name x p) (e :: es) [] pos) (tMkE C sp ta) := by
  refine ⟨fun pins s σ H Q I hyp => ?_⟩
  obtain ⟨fI, fd, T, iC, tI, hb, F1⟩ := M
  obtain ⟨nm, q, N, bs, bm, sn, sub, ab, col, dd, k0, k1, k2, k3, k5, hC, hbm⟩ := T.cls
  refine wpAny_Call_Name_kw (ld_glob I hg hm ?_ hdb)
  refine PySem.W.callWith_K (h₀ := X.base) I.ok.mod.kin T.kC (thn (ha.run pos pins s σ H _ I hyp) fun us s1 ⟨vs, H1, I1, r1, hz, q1⟩ => ⟨I1.kIn, ?_⟩) he hpl
  show wpAny _ _ (call (.ref C) us) _ _ _
  obtain ⟨hp, g, dr, tk, os⟩ := s1
  have sz : hp.objs.size ≤ hp.objs.size + 1 := Nat.le_succ _
  have hq := q1 (hp.objs.size + 1) (I1.hok.fresh sz)
  have kk : ∀ b o, hp.get? b = some o → ((hp.push (PySem.W.kdv_tup us)).push (PySem.HandSPX.excO C hp.objs.size)).get? b = some o := fun b o z =>
    Heap.get?_push_of_some _ (Heap.get?_push_of_some _ z)
  have hget : ((hp.push (PySem.W.kdv_tup us)).push (PySem.HandSPX.excO C hp.objs.size)).get? (hp.objs.size + 1) =
      some (PySem.HandSPX.excO C hp.objs.size) := by heap_get
  have I2 : Inv X pins σ (upd H1 (hp.objs.size + 1) (exo (hp.objs.size + 1) C none)) ⟨(hp.push (PySem.W.kdv_tup us)).push (PySem.HandSPX.excO C hp.objs.size), g, dr, tk, os⟩ :=
    Inv.laid (s := ⟨hp, g, dr, tk, os⟩) (t' := tk) (a := hp.objs.size + 1) (o := exo (hp.objs.size + 1) C none) I1 kk sz (exo_ok hget)
  have r2 : Vals (V.ref (hp.objs.size + 1) :: vs) (Value.ref (hp.objs.size + 1) :: us) := .cons rfl r1
  have lenU : (Value.ref (hp.objs.size + 1) :: us).length = ps.length := by
    have z := vals_len r2
    rw [F1.len _ _ _ _ hq] at z
    exact z.symm
  have us_le : us.length ≤ sizeLine := by
    rw [← vals_len r1, sizeLine_eq]
    omega
  have bnd := hb ⟨(hp.push (PySem.W.kdv_tup us)).push (PySem.HandSPX.excO C hp.objs.size), g, dr, tk, os⟩ (Value.ref (hp.objs.size + 1) :: us) I2.kIn (by rw [List.append_nil]; exact lenU)
  rw [List.append_nil] at bnd
  refine wpAny_call (PySem.HandSPX.call_own F.excBase_ValueError (fun Y => PySem.HandSPX.refsVE_contains Y bm hbm) (I1.kIn _ _ hC) (PySem.W.looks_findIn I1.kIn iC)
    (fun self => PySem.W.bind_fn I1.kIn self tI) us_le (codeAny_mono (F1.run _ X.stack _ _ ⟨Value.ref (hp.objs.size + 1) :: us, []⟩ _ _ _ _ (hr.make C us []) (I2.env0.make C us []) bnd r2 hq) fun r sx hx => ?_))
  cases r with
  | error er => exact (show False from hx).elim
  | ok fl =>
    cases fl with
    | ret u =>
      obtain ⟨v, H2, J, rv, ev, q2⟩ := I2.after hx
      subst ev
      exact ⟨rv, .ref (hp.objs.size + 1), H2, J, rfl, q2⟩
    | next => exact False.elim hx
    | brk => exact False.elim hx
    | cont => exact False.elim hx
/-- C(), super().__init__() in its __init__ -/
def tMkS (C : Addr) : TE := fun _ H Q => ∀ a, H a = none → Q (.ref a) (upd H a (exo a C none))
theorem pkS (M : Xs X.K X.prog C) (hr : Room 2 X.A) (hg : Gl X x) (hm : X.mg x = some (.ref C)) (hs : X.mg "super" = none) (hdb : (x == ("__debug__" : Str)) = false := by decide) :
    PE X (.Call (.Name x p) [] [] pos) (tMkS C) := by
  refine ⟨fun pins s σ H Q I hyp => ?_⟩
  obtain ⟨fI, T, iC, tI, S⟩ := M
  obtain ⟨nm, q, N, bs, bm, sn, sub, ab, col, dd, k0, k1, k2, k3, k5, hC, hbm⟩ := T.cls
  refine wpAny_Call_Name_kw (ld_glob I hg hm ?_ hdb)
  refine PySem.W.callWith_K0 I.kIn T.kC ?_
  show wpAny _ _ (call (.ref C) []) _ _ _
  have bsI := I.bk
  have kI := I.kIn
  have modI := I.mod
  obtain ⟨hp, g, dr, tk, os⟩ := s
  have hn : H (hp.objs.size + 1) = none := I.hok.fresh (Nat.le_succ _)
  have kk : ∀ b o, hp.get? b = some o → ((hp.push (PySem.W.kdv_tup [])).push (PySem.HandSPX.excO C hp.objs.size)).get? b = some o := fun b o z =>
    Heap.get?_push_of_some _ (Heap.get?_push_of_some _ z)
  have hget : ((hp.push (PySem.W.kdv_tup [])).push (PySem.HandSPX.excO C hp.objs.size)).get? (hp.objs.size + 1) =
      some (PySem.HandSPX.excO C hp.objs.size) := by heap_get
  refine wpAny_call (PySem.HandSPX.call_own F.excBase_ValueError (fun Y => PySem.HandSPX.refsVE_contains Y bm hbm) (kI _ _ hC) (PySem.W.looks_findIn kI iC)
    (fun self => PySem.W.bind_fn kI self tI) (Nat.zero_le _) ?_)
  refine run_sup S T modI hs (fun b o z => kk _ _ (bsI _ _ z)) (hr.make C [] []).depth hget (fun h' t1 t' k' e' => ?_)
  have J : Inv X pins σ (upd H (hp.objs.size + 1) (exo (hp.objs.size + 1) C none)) ⟨h', g, dr, t', os⟩ :=
    Inv.laid (s := ⟨hp, g, dr, tk, os⟩) (t' := t') (a := hp.objs.size + 1) (o := exo (hp.objs.size + 1) C none) I
      (fun b u z => k' b u (Nat.ne_of_lt (Nat.lt_succ_of_lt (Heap.lt_size z))) (kk _ _ z)) (Nat.le_succ _) (exo_ok e')
  exact ⟨rfl, .ref (hp.objs.size + 1), _, J, rfl, hyp _ hn⟩
/-- e.f, e an exception that stands in the heap -/
def tFldE (K : PySem.W.Frag) (f : Str) (te : TE) : TE := fun σ H Q => te σ H fun x H1 => ∃ a C fs v, x = .ref a ∧ ExV H1 a C fs ∧ XfC K C ∧ PySem.W.findIn K (.ref C) f = some none ∧ fs.lookup f = some v ∧ Q v H1
theorem pe_fldE {K : PySem.W.Frag} {te : TE} {f : Str} (he : PE X e te) (hb : attributeBase e f X.env (eval e X.env) = eval e X.env := by rfl) (hK : X.K = K := by rfl) : PE X (.Attribute e f pos) (tFldE K f te) := by
  subst hK
  refine ⟨fun pins s σ H Q I h => ?_⟩
  refine attr_of hb (thn (he.run pins s σ H _ I h) fun u s1 hh => ?_)
  obtain ⟨y, H1, I1, rx, a, C, fs, v, rfl, hE, T, hno, l, q⟩ := hh
  obtain rfl : u = Value.ref a := rx
  rcases hE with ⟨rfl, _⟩ | ⟨dx, h1, h2⟩
  · cases l
  · obtain ⟨t1, ho⟩ := exo_at I1.hok h1
    obtain ⟨mA, hns, hr⟩ := exd_at I1.hok h2
    obtain ⟨od, hod, hl⟩ := lookIn_ns hns
    obtain ⟨u, hu, ru⟩ := RelO.some_of (v := v) (o := mA f) (by rw [← l]; exact hr f)
    have J : PySem.W.InstAt s1.heap a { cls := .ref C, dict := some dx, data := .fields #[.ref t1, .none, .none, .none, .bool false, .none] } C (some od) := ⟨ho, rfl, rfl, hod⟩
    exact HandSPX.exc_get I1.kIn J T.ga T.gg T.exC (PySem.W.findObj_own T.hdC hno rfl (by rw [hl, hu])) (handed_of ru) ⟨v, H1, I1.tok _, ru, q⟩
/-- isinstance(e, c) of such -/
def rIsV (K : PySem.W.Frag) : List V → Hp → VK → Prop := fun xs H Q => ∃ (a C : Addr) (fs : List (Str × V)) (c : V) (cv : Value) (b : Bool), xs = [.ref a, c] ∧ ExV H a C fs ∧ ExcC K C ∧ ClsV c cv ∧ PySem.W.kitOne K (.ref C) cv = some b ∧ Q (.bl b) H
theorem call_isV {K : PySem.W.Frag} (hK : X.K = K := by rfl) : CallR X (.builtin "isinstance") (rIsV K) := by
  subst hK
  intro pins s σ H xs us Q I r h
  obtain ⟨a, C, fs, c, cv, b, rfl, hE, T, hcv, ek, q⟩ := h
  obtain ⟨u1, u2, rfl, r1, r2⟩ := vals2 r
  obtain rfl : u1 = Value.ref a := r1
  have ec := hcv.eq r2
  subst ec
  have J : ∃ ox od, PySem.W.InstAt s.heap a ox C od := by
    rcases hE with ⟨_, h1⟩ | ⟨dx, h1, h2⟩
    · obtain ⟨t1, ho⟩ := exo_at I.hok h1
      exact ⟨_, none, ho, rfl, rfl, trivial⟩
    · obtain ⟨t1, ho⟩ := exo_at I.hok h1
      obtain ⟨mA, hns, _⟩ := exd_at I.hok h2
      obtain ⟨od, hod, _⟩ := lookIn_ns hns
      exact ⟨_, some od, ho, rfl, rfl, hod⟩
  obtain ⟨ox, od, J⟩ := J
  exact PySem.W.kia_one (kit_exc (ox := ox) T) I.kIn ⟨od, J⟩ ek (fun z => nomatch z) fun tk => ⟨.bl b, H, I.kept (t' := tk) fun _ _ z => z, rfl, q⟩
theorem ps_ostK {K : PySem.W.Frag} {o : Expr} {f : Str} {p' : Pos} {to te : TE} (ho : PE X o to) (he : PE X e te) (hs : swapsWith e (some (.Attribute o f p')) pos.line X.env = pure false := by rfl) (hK : X.K = K := by rfl) :
    PS X (.Assign [.Attribute o f p'] e pos) (tOst K f to te) := by
  subst hK
  exact ps_ost ho he hs
end
/-- isinstance among own classes: F and ValueError's mro behind the class itself -/
structure ClF (K : PySem.W.Frag) (F C : Addr) : Prop where
  cls : ∃ nm q N bs sn sub ab col dd k0 k1 k2 k3 k5, K.lookup C = some (excClassObj nm q C N bs (.ref F :: HandSPX.veTail) true sn sub ab col dd k0 k1 k2 k3 k5 "ValueError.__new__")
section
variable {K : PySem.W.Frag} {F C D : Addr}
theorem ClF.cd (h : ClF K F C) : ∃ cd : ClassData, PySem.W.clsIn K C = some cd ∧ cd.mro = .ref C :: .ref F :: HandSPX.veTail ∧ cd.hasDict = true := by
  obtain ⟨nm, q, N, bs, sn, sub, ab, col, dd, k0, k1, k2, k3, k5, hC⟩ := h.cls
  refine ⟨{ name := nm, bases := bs, mro := .ref C :: .ref F :: HandSPX.veTail, ns := N, qualname := q, hasDict := true, slotNames := sn, subclasses := sub, abstract := ab, collection := col, hasDel := false }, ?_, rfl, rfl⟩
  unfold PySem.W.clsIn
  rw [hC] <;> rfl
theorem ClF.mro (h : ClF K F C) (b : Value) : PySem.W.mroIn K C b = some ((Value.ref C :: Value.ref F :: HandSPX.veTail).contains b) := by
  obtain ⟨cd, h1, h2, _⟩ := h.cd
  unfold PySem.W.mroIn
  rw [h1, Option.bind_some, h2]
  rfl
theorem ClF.ty (h : ClF K F C) : PySem.W.typeIn K (.ref C) = some (.type "type") := by
  obtain ⟨nm, q, N, bs, sn, sub, ab, col, dd, k0, k1, k2, k3, k5, hC⟩ := h.cls
  unfold PySem.W.typeIn
  simp only [hC]
  rfl
theorem ClF.is (h : ClF K F C) (hD : (PySem.W.clsIn K D).isSome = true) (tD : PySem.W.typeIn K (.ref D) = some (.type "type")) (hF : D ≠ F) : PySem.W.kitOne K (.ref C) (.ref D) = some (decide (C = D)) := by
  unfold PySem.W.kitOne
  by_cases e : C = D
  · subst e
    rw [if_pos (by simp), decide_eq_true rfl]
  · rw [if_neg (by simp [e]), decide_eq_false e]
    show (if ((PySem.W.clsIn K D).isSome && PySem.W.typeIn K (.ref D) == some (.type "type")) = true then PySem.W.subIn K (.ref C) (.ref D) else none) = _
    rw [hD, tD]
    show (if (true && (some (Value.type "type") == some (Value.type "type"))) = true then PySem.W.mroIn K C (.ref D) else none) = _
    rw [if_pos (by decide), h.mro]
    have : (Value.ref C :: Value.ref F :: HandSPX.veTail).contains (.ref D) = false := by
      simp [HandSPX.veTail, Ne.symm e, hF]
    rw [this]
end
end Fp

/-! the errors of the package as a family -/
namespace Fp
open PySem PySem.Spec PyProof.Rows L2
structure EC (K : PySem.W.Frag) (F C : Addr) : Prop where
  cl : ClF K F C
  sa : PySem.W.findIn K (.ref C) "__setattr__" = some (some (.builtin "object.__setattr__"))
  ga : PySem.W.findIn K (.ref C) "__getattribute__" = some (some (.builtin "BaseException.__getattribute__"))
  gg : PySem.W.findIn K (.ref C) "__getattr__" = some none
  ca : PySem.W.findIn K (.ref C) "__class__" = some (some (.builtin "object.__class__"))
  kC : PySem.W.keepIn K (.ref C) = true
structure EFam (K : PySem.W.Frag) (F : Addr) (Cs : List Addr) : Prop where
  nd : Cs.Nodup
  nF : F ∉ Cs
  f1 : (PySem.W.clsIn K F).isSome = true
  f2 : PySem.W.typeIn K (.ref F) = some (.type "type")
  sp : PySem.W.specialIn K (.builtin "object.__class__") "__get__" = some (some (.builtin "getset_descriptor.__get__"))
  tk : PySem.W.takesIn K (.builtin "object.__class__") = some true
  ec : ∀ C ∈ Cs, EC K F C
section
variable {K : PySem.W.Frag} {F C D : Addr} {Cs : List Addr}
theorem EC.sub (h : EC K F C) (b : Value) (hb : HandSPX.veTail.contains b = true) : PySem.W.subIn K (.ref C) b = some true := by
  show PySem.W.mroIn K C b = _
  rw [h.cl.mro, List.contains_cons, List.contains_cons, hb, Bool.or_true, Bool.or_true]
theorem EC.hd (h : EC K F C) : PySem.W.hasDictIn K C = true := by
  obtain ⟨cd, h1, _, h3⟩ := h.cl.cd
  unfold PySem.W.hasDictIn
  rw [h1]
  exact h3
theorem EC.oex (h : EC K F C) : OexC K C := by
  obtain ⟨nm, q, N, bs, sn, sub, ab, col, dd, k0, k1, k2, k3, k5, hC⟩ := h.cl.cls
  exact ⟨⟨nm, q, N, bs, _, sn, sub, ab, col, dd, k0, k1, k2, k3, k5, hC, by show (HandSPX.veTail == HandSPX.veTail) = true; decide +kernel⟩, h.sa, h.sub _ (by decide +kernel), h.cl.ty, h.kC⟩
theorem EC.xf (h : EC K F C) : XfC K C := ⟨h.ga, h.gg, h.sub _ (by decide +kernel), h.hd⟩
theorem EFam.exc (f : EFam K F Cs) (h : C ∈ Cs) : ExcC K C := by
  have e := f.ec C h
  exact ⟨e.ga, e.gg, e.sub _ (by decide +kernel), e.hd, e.ca, f.sp, f.tk, e.sub _ (by decide +kernel)⟩
theorem EFam.is (f : EFam K F Cs) (h : C ∈ Cs) (hD : D ∈ Cs) : PySem.W.kitOne K (.ref C) (.ref D) = some (decide (C = D)) := by
  obtain ⟨cd, h1, _⟩ := (f.ec D hD).cl.cd
  exact (f.ec C h).cl.is (by rw [h1]; rfl) (f.ec D hD).cl.ty fun z => f.nF (z ▸ hD)
theorem EFam.isF (f : EFam K F Cs) (h : C ∈ Cs) : PySem.W.kitOne K (.ref C) (.ref F) = some true := by
  have ne : C ≠ F := fun z => f.nF (z ▸ h)
  unfold PySem.W.kitOne
  rw [if_neg (by simp [ne])]
  show (if ((PySem.W.clsIn K F).isSome && PySem.W.typeIn K (.ref F) == some (.type "type")) = true then PySem.W.mroIn K C (.ref F) else none) = _
  rw [f.f1, f.f2, if_pos (by decide), (f.ec C h).cl.mro]
  have : (Value.ref C :: Value.ref F :: HandSPX.veTail).contains (.ref F) = true := by simp
  rw [this]
theorem EFam.isVE (f : EFam K F Cs) (h : C ∈ Cs) : PySem.W.kitOne K (.ref C) (.type "ValueError") = some true := by
  unfold PySem.W.kitOne
  rw [if_neg (by simp)]
  show (if PySem.W.kitMeta "ValueError" = true then PySem.W.subIn K (.ref C) (.type "ValueError") else none) = _
  rw [if_pos (by decide +kernel), (f.ec C h).sub _ (by decide +kernel)]
end
/-! ### promises -/
/-- self.f = v -/
def spI (C : Addr) (f : Str) : Sp := fun vs H Q _ => ∃ a v, vs = [.ref a, v] ∧ H a = some (exo a C none) ∧ ∀ H', (∀ b o, H b = some o → b ≠ a → H' b = some o) → ExV H' a C [(f, v)] → Q .non H'
def spIo (C : Addr) (f : Str) : Sp := fun vs H Q _ => ∃ a b xs, vs = [.ref a, .ref b] ∧ H a = some (exo a C none) ∧ H b = some (.lst xs) ∧ ∀ H' l, (∀ b o, H b = some o → b ≠ a → H' b = some o) → H' l = some (.lst xs) → ExV H' a C [(f, .ref l)] → Q .non H'
def spI2 (C : Addr) (f g : Str) : Sp := fun vs H Q _ => ∃ a v w, vs = [.ref a, v, w] ∧ H a = some (exo a C none) ∧ ∀ H', (∀ b o, H b = some o → b ≠ a → H' b = some o) → ExV H' a C [(g, w), (f, v)] → Q .non H'
def spOwnL : Sp := fun vs H Q _ => ∃ b xs, vs = [.ref b] ∧ H b = some (.lst xs) ∧ ∀ l, H l = none → Q (.ref l) (upd H l (.lst xs))
def spPickS : Sp := fun vs H Q _ => ∃ p c z t, vs = [.ref p, .str z] ∧ PenOk H p c t ∧ t ≤ 900000000 ∧ 0 < z.length ∧ z.length ≤ 900 ∧ OkS z ∧ ∀ (c' : Nat) (H' : Hp), OkS ⟨#[c']⟩ → PenOk H' p c (t + 1) → But p H H' → Q (.str ⟨#[c']⟩) H'
def barS : List Str := ["tags", "sums", "state", "on", "go", "end", "none", "x"]
def spBar : Sp := fun vs H Q _ => vs = [] ∧ ∀ l H', H l = none → Same H H' → H' l = some (.lst (barS.map V.str)) → Q (.ref l) H'
def spNames : Sp := fun vs H Q _ => ∃ (p c : Addr) (m t : Nat), vs = [.ref p, .int (m : Int)] ∧ PenOk H p c t ∧ t ≤ 800000000 ∧ m ≤ 1000 ∧ ∀ (a : Addr) (H' : Hp) (zs : List Str), (0 < m → zs ≠ []) → zs.length ≤ 100 → (∀ z ∈ zs, z.length ≤ 300) → (∀ z ∈ zs, OkS z) → Dt H' (.ref a) (.list (zs.map PyData.str)) → PenOk H' p c (t + 200) → But p H H' → Q (.ref a) H'
def spClsN (Cs : List Addr) : Sp := fun vs H Q _ => ∃ a C fs, vs = [.ref a] ∧ ExV H a C fs ∧ C ∈ Cs ∧ Q (.int 1) H
def spIsOne (Cs : List Addr) : Sp := fun vs H Q _ => ∃ a C fs, vs = [.ref a, .bl true] ∧ ExV H a C fs ∧ C ∈ Cs ∧ Q (.bl true) H
/-- a list of pairs: an error, v -/
def spErrs (Cs : List Addr) : Sp := fun vs H Q _ => ∃ v, vs = [v] ∧ ∀ (l : Addr) (H' : Hp) (ps : List Addr), Same H H' → H' l = some (.lst (ps.map V.ref)) → ps.length ≤ 10 → (∀ p ∈ ps, ∃ a C fs, H' p = some (.tup [.ref a, v]) ∧ ExV H' a C fs ∧ C ∈ Cs) → Q (.ref l) H'
def spPenB : Sp := fun vs H Q _ => ∃ p c t, vs = [.ref p] ∧ PenOk H p c t ∧ t ≤ 700000000 ∧ ∀ H', PenOk H' p c (t + 300) → But p H H' → Q (.bl true) H'
/-! ### enumerate in a comprehension, the items flat -/
section
variable {K : PySem.W.Frag} {g : TG} {tt : TT} {te : TE} {vs : List Nat} {σ : L2.St} {H : Hp} {Q : VK} {xs : List V} {a : Addr}
theorem lcg_enum (hS : SqL K H a xs) (hz : xs.length < 100000) (R : List V → Prop) (R0 : R []) 
    (hs : ∀ i x H' T, xs[i]? = some x → Same H H' → H' T = none → ∀ (acc : List V), R acc → ∀ (R1 : V → Hp → Prop) (R2 : Hp → Prop), (∀ y H'', Same (upd H' T (.tup [.int (i : Nat), x])) H'' → R (acc ++ [y]) → R1 y H'') →
      g (.ref T) (wipe σ vs) (upd H' T (.tup [.int (i : Nat), x])) fun σ2 H2 => wipe σ2 vs = wipe σ vs ∧ tt σ2 H2 fun b H3 => if b = true then te σ2 H3 R1 else R2 H3)
    (hd : ∀ D acc H', H D = none → Same H H' → H' D = some (.lst acc) → acc.length = xs.length → R acc → Q (.ref D) H') : LcG (Ite K a) g tt te vs σ H Q := by
  intro D hD
  refine ⟨fun i m H' => m = xs.length - i ∧ i ≤ xs.length ∧ ∃ acc, H' D = some (.lst acc) ∧ acc.length = i ∧ R acc ∧ Same H H', ⟨xs.length, by simp, Nat.zero_le _, [], upd_same, rfl, R0, same_new hD⟩, ?_⟩
  rintro i m H' ⟨rfl, hi, acc, h1, h2, h3, h4⟩
  by_cases hlt : i < xs.length
  · refine .inr ⟨⟨xs, xs[i], h4.seq hS, List.getElem?_eq_getElem hlt⟩, fun H'' => ∃ acc, H'' D = some (.lst acc) ∧ acc.length = i + 1 ∧ R acc ∧ Same H H'', fun H'' ⟨acc', p'⟩ => ⟨xs.length - (i + 1), by omega, rfl, hlt, acc', p'⟩, fun x H'' y => ?_⟩
    obtain ⟨T, x', rfl, hT, rfl, hx⟩ := y
    have e2 : Same H' (upd H' T (.tup [.int (i : Nat), x'])) := same_new hT
    have big : 100000 ≤ sizeLine := by decide
    refine hs i x' H' T (hx xs (h4.seq hS)) h4 hT acc h3 _ _ (fun y H'' e3 r => ?_)
    exact ⟨acc, e3 _ _ (e2 _ _ h1), by omega, _, upd_same, by rw [List.length_append, h2]; rfl, r, Same.mut ((h4.trans e2).trans e3) hD⟩
  · have e : i = xs.length := by omega
    subst e
    exact .inl ⟨⟨xs, h4.seq hS, Nat.le_refl _⟩, hd D acc H' hD h4 h1 h2 h3⟩
end
section
variable {X : Cx} {K : PySem.W.Frag}
theorem pi_enumK {e : Expr} {ta : TA} {p pos tpos : Pos} {elts : List Expr} {kk : Nat} (hg : Gl X "enumerate") (hm : X.mg "enumerate" = none) (ha : PA X [e] ta) (hs : starEach [e] X.env = [(false, eval e X.env)] := by rfl) (hK : X.K = K := by rfl) :
    PI X (.Tuple elts kk tpos) (.Call (.Name "enumerate" p) [e] [] pos) (iEnum K ta) := by
  subst hK
  exact pi_enum hg hm ha hs
theorem lc_iE {ta : TA} {g : TG} {tt : TT} {te : TE} {vs : List Nat} {σ : L2.St} {H : Hp} {Q : VK} : tLc (iEnum K ta) g tt te vs σ H Q = ta σ H (fun zs H1 => ∃ a xs, zs = [.ref a] ∧ SqL K H1 a xs ∧ LcG (Ite K a) g tt te vs σ H1 Q) := rfl
end
theorem seqi2 {t u v : TS} {D : Ends} {σ : L2.St} {H : Hp} (h : ∀ k : L2.St → Hp → Prop, k = v D → t { D with nx := u { D with nx := k } } σ H) : tSeq t (tSeq u v) D σ H := h _ rfl
/-! ### the letters of the names -/
def sgS : Str := "abcdefghijklmnopqrstuvw"
theorem sg_at : ∀ i, i < 23 → sgS.cps.toList[i]? = some (97 + i) := by decide +kernel
theorem sg_len : sgS.length = 23 := by decide +kernel
def oneS (n : Nat) : Str := ⟨#[n]⟩
theorem sg_ok : OkS sgS := by decide +kernel
theorem one_ok {n : Nat} (h : n < 1000) : OkS (oneS n) := okS_one (by omega)
theorem one_len (n : Nat) : (oneS n).length = 1 := rfl
theorem one_free : ∀ i, i < 23 → oneS (97 + i) ∉ barS := by decide +kernel
theorem bar_last : barS.all (fun b => decide (b = "x") || !decide (b.cps.toList.getLast? = some 120)) = true := by decide +kernel
theorem bar_noz : barS.all (fun b => !b.cps.toList.contains 122) = true := by decide +kernel
theorem app_x {w : Str} (h : 0 < w.length) : w ++ "x" ∉ barS := fun hm => by
  have h1 := List.all_eq_true.mp bar_last _ hm
  have hl : (w ++ "x").cps.toList.getLast? = some 120 := by
    have e : (w ++ "x").cps.toList = w.cps.toList ++ [120] := by
      show (w.cps ++ ("x" : Str).cps).toList = _
      rw [Array.toList_append]
      rfl
    rw [e, List.getLast?_append]
    rfl
  rw [hl] at h1
  have h2 : w ++ "x" = ("x" : Str) := by simpa using h1
  have h3 := congrArg Str.length h2
  rw [Str.length_append] at h3
  have e1 : ("x" : Str).length = 1 := rfl
  omega
theorem zz_free {w v : Str} : w ++ ("zz" ++ v) ∉ barS := fun hm => by
  have h1 := List.all_eq_true.mp bar_noz _ hm
  have e : (w ++ ("zz" ++ v)).cps.toList = w.cps.toList ++ ([122, 122] ++ v.cps.toList) := by
    show (w.cps ++ (("zz" : Str).cps ++ v.cps)).toList = _
    rw [Array.toList_append, Array.toList_append]
    rfl
  rw [e] at h1
  simp at h1
end Fp

/-! repr of data: calls that know that no repr runs around them -/
namespace Fp
open PySem PySem.Spec PyProof.Rows L2
/-- room, and no repr around -/
structure RoomG (k : Nat) (A : Around) : Prop where
  r : Room k A
  g : A.guards = some []
theorem RoomG.mono {j k : Nat} {A : Around} (h : RoomG k A) (l : j ≤ k) : RoomG j A := ⟨h.r.mono l, h.g⟩
theorem RoomG.deep {k : Nat} {A : Around} (h : RoomG (k + 1) A) (env : Env) : RoomG k (A.deeper env) := ⟨h.r.deeper env, h.g⟩
/-- FnOk, asked only where no repr runs -/
structure FnG (P : Program) (w : World) (K : PySem.W.Frag) (mg : Str → Option Value) (base : Heap) (CX : CXT) (k : Nat) (f : Addr) (fd : FuncData) (ps : List Str) (sp : Sp) : Prop where
  same : ∀ vs H Q E, sp vs H Q E → vs.length = ps.length
  go : ∀ (A : Around) (outer : List Env) (s : Shared) (H : Hp) (args : Args) (us : List Value) (vs : List V) (Q : VK) (E : XK),
    RoomG k A → Env0 P w K mg base A outer s H → BindsTo s fd args (ps.zip us) → Vals vs us → sp vs H Q E → codeAny (model P w) A (.call (.ref f) args) (CR CX outer P w H s Q E) s
section
variable {P : Program} {w : World} {K : PySem.W.Frag} {mg : Str → Option Value} {base : Heap} {CX : CXT} {k : Nat} {f : Addr} {fd : FuncData} {ps : List Str} {sp : Sp}
theorem FnG.of (F : FnOk P w K mg base CX k f fd ps sp) : FnG P w K mg base CX k f fd ps sp := ⟨F.len, fun A o s H a us vs Q E hr => F.run A o s H a us vs Q E hr.r⟩
theorem FnG.mono {j : Nat} (F : FnG P w K mg base CX j f fd ps sp) (h : j ≤ k) : FnG P w K mg base CX k f fd ps sp := ⟨F.same, fun A o s H a us vs Q E hr => F.go A o s H a us vs Q E (hr.mono h)⟩
/-- a def by its body, which may know that no repr runs around -/
theorem funG {x qual : Str} {st : Stmt} {N : List Str} (F : Fun K x qual st f fd) (S : FnScope N ps (defScope st)) (len : ∀ vs H Q E, sp vs H Q E → vs.length = ps.length)
    (hb : ∀ (cdv : Value) (A : Around) (outer : List Env) (s : Shared) (H : Hp) (vs : List V) (Q : VK) (E : XK), RoomG k (A.deeper (envOfC qual (defScope st) s.heap.objs.size f cdv)) → sp vs H Q E →
      ∃ t, PSs (cxOf CX P w K mg base N qual (defScope st) f cdv A outer s H E) (defBody st) t ∧ t { nx := fun _ H' => Q .non H', rt := Q } (start N vs) H) :
    FnG P w K mg base CX (k + 1) f fd ps sp := by
  obtain ⟨oc, od, kV, doc, pm, an, cdv, ct, osl, rfl, lk, hcd⟩ := F.ex
  refine ⟨len, fun A outer s H args us vs Q E hr e0 bd rv hsp => ?_⟩
  have kin : K.In s.heap := e0.mod.kin.keeps fun b o z => (e0.bs b o z).1
  have nol : s.heap.NoLimit := e0.mod.nolimit.keeps fun b o z => (e0.bs b o z).1
  have kinds : ∀ y ∈ ps.zip us, (defScope st).names.lookup y.1 = some .local ∨ ((defScope st).names.lookup y.1 = some .cell ∧ ((cellsFrom (s.heap.objs.size + 1) (defScope st).names []).lookup y.1).isSome = true) := by
    rintro ⟨n, v⟩ hy
    cases S.par n (List.of_mem_zip hy).1 with
    | inl z => exact .inl z
    | inr z => exact .inr ⟨z, PySem.W.cellsFrom_some _ _ _ (.inl z)⟩
  refine codeAny_call_function hr.r.depth (kin _ _ lk) rfl S.co S.gen rfl (PySem.W.codeRec_of kin hcd) (bd _ _ _ _ (wpAny_newFunctionEnv_cells S.kind kinds fun env he s1 x => ?_))
  cases he
  refine ⟨nol.keeps x.toInCall.keep, codeAny_func ?_⟩
  obtain ⟨t, pt, ht⟩ := hb cdv A outer s H vs Q E (hr.deep _) hsp
  refine wpAny_mono (pt.run [] s1 (start N vs) H _ (inv_start S hr.r.hd e0 (len _ _ _ _ hsp) rv x) ht) ?_ (fun e s' z => z)
  intro fl s' hs
  match fl, hs with
  | .ret u, ⟨v, σ', H', J, r2, q⟩ => exact ⟨v, H', J.os, J.bare, J.base, J.hok, r2, q⟩
  | .next, ⟨σ', H', J, q⟩ => exact ⟨V.non, H', J.os, J.bare, J.base, J.hok, (show RelV V.non Value.none from rfl), q⟩
  | .brk, ⟨_, _, _, q⟩ => exact False.elim q
  | .cont, ⟨_, _, _, q⟩ => exact False.elim q
end
/-- defs of the text, by name -/
def DnG (P : Program) (w : World) (K : PySem.W.Frag) (mg : Str → Option Value) (base : Heap) (k : Nat) (x : Str) (ps : List Str) (sp : Sp) : Prop :=
  ∃ f fd, mg x = some (.ref f) ∧ PySem.W.keepIn K (.ref f) = true ∧ Binds K fd ps [] ∧ FnG P w K mg base CX0 k f fd ps sp
section
variable {X : Cx} {k : Nat} {x : Str} {ps : List Str} {sp : Sp} {p pos : Pos} {e : Expr} {es : List Expr} {t : TA} {f : Addr} {fd : FuncData}
theorem run_fnG {pins : List (Addr × Obj)} {σ : L2.St} {H : Hp} {s : Shared} {Q : VK} {us : List Value} {vs : List V} (F : FnG X.prog X.w X.K X.mg X.base CX0 k f fd ps sp) (hr : RoomG k X.A) (hb : Binds X.K fd ps [])
    (I : Inv X pins σ H s) (r : Vals vs us) (h : sp vs H Q E0) : wpAny (model X.prog X.w) X.A (call (.ref f) us) (EP X pins σ Q) X.xe s := by
  have len2 : us.length = ps.length := by rw [← vals_len r]; exact F.same _ _ _ _ h
  have bd := hb s us I.kIn (by rw [List.append_nil]; exact len2)
  rw [List.append_nil] at bd
  refine wpAny_call (codeAny_mono (F.go X.A X.stack s H ⟨us, []⟩ us vs Q E0 hr I.env0 bd r h) ?_)
  intro res s' hq
  match res, hq with
  | .error _, hq => exact False.elim hq
  | .ok (.ret _), hq => exact I.after hq
theorem pdG (D : DnG X.prog X.w X.K X.mg X.base k x ps sp) (hr : RoomG k X.A) (hg : Gl X x) (ha : PA X (e :: es) t) (hdb : (x == ("__debug__" : Str)) = false := by decide)
    (he : starEach (e :: es) X.env = (false, eval e X.env) :: starEach es X.env := by rfl) (hpl : (backTo pos (starEach es X.env)).any (·.1) = false := by rfl) :
    PE X (.Call (.Name x p) (e :: es) [] pos) (tCall sp [] E0 t) := by
  obtain ⟨f, fd, h1, h2, h3, h4⟩ := D
  refine ⟨fun pins s σ H Q I h => wpAny_Call_Name_kw (ld_glob I hg h1 ?_ hdb)⟩
  refine PySem.W.callWith_K (h₀ := X.base) I.ok.mod.kin h2 (thn (ha.run pos pins s σ H _ I h) ?_) he hpl
  rintro us s1 ⟨vs, H1, I1, r, q⟩
  rw [List.append_nil] at q
  exact ⟨I1.kIn, run_fnG h4 hr h3 I1 r q⟩
/-- repr of data -/
def rReprD (K : PySem.W.Frag) : List V → Hp → VK → Prop := fun xs H Q => ∃ a d, xs = [.ref a] ∧ Dp K H (.ref a) d ∧ d.showable = true ∧ d.hasDict = false ∧ d.depth ≤ 64 ∧ d.shown.length ≤ sizeLine ∧ Q (.str d.shown) H
theorem call_reprD {K : PySem.W.Frag} (hr : RoomG k X.A) (hK : X.K = K := by rfl) : CallR X (.builtin "repr") (rReprD K) := by
  subst hK
  intro pins s σ H xs us Q I r h
  obtain ⟨a, d, rfl, hd, h1, h2, h3, h4, q⟩ := h
  obtain ⟨u, rfl, ru⟩ := vals1 r
  obtain rfl : u = Value.ref a := ru
  obtain ⟨as, rd⟩ := Dp.reads I d (.ref a) _ hd rfl
  have un := hr.r.un
  refine repr_of_reads' rd h1 (PyData.noDict_hsm h2) hr.g (by omega) (fun b o z => z) (fun h' u tk hk => ?_) h4
  exact ⟨.str d.shown, H, I.kept (t' := tk) hk, ⟨u, rfl⟩, q⟩
end
end Fp

/-! the end of a law whose defs know that no repr runs around them; cs: code objects and their tables (none, or some) -/
namespace Fp
open PySem PySem.Spec PyProof.Rows L2
/-- the abstract heap at the law's call: the tables, the script -/
def topH (K : PySem.W.Frag) (a : Addr) (us : Array Value) (ns : List Int) (ts : List Addr) : Hp := fun b =>
  if b ∈ ts then some (.tbl #[]) else if b = a ∧ K.lookup a = none then some (.frz { cls := .type "list", data := .seq us } (.lst (ns.map V.int))) else none
theorem topH_t {K : PySem.W.Frag} {a b : Addr} {us : Array Value} {ns : List Int} {ts : List Addr} (h : b ∈ ts) : topH K a us ns ts b = some (.tbl #[]) := if_pos h
theorem topH_a {K : PySem.W.Frag} {a : Addr} {us : Array Value} {ns : List Int} {ts : List Addr} (h : a ∉ ts) (k : K.lookup a = none) : topH K a us ns ts a = some (.frz { cls := .type "list", data := .seq us } (.lst (ns.map V.int))) := by
  unfold topH
  rw [if_neg h, if_pos ⟨rfl, k⟩]
theorem topH_cases {K : PySem.W.Frag} {a : Addr} {us : Array Value} {ns : List Int} {ts : List Addr} (b : Addr) :
    (b ∈ ts ∧ topH K a us ns ts b = some (.tbl #[])) ∨ (b ∉ ts ∧ b = a ∧ K.lookup a = none ∧ topH K a us ns ts b = some (.frz { cls := .type "list", data := .seq us } (.lst (ns.map V.int)))) ∨ (b ∉ ts ∧ topH K a us ns ts b = none) := by
  by_cases h : b ∈ ts
  · exact .inl ⟨h, if_pos h⟩
  · by_cases h2 : b = a ∧ K.lookup a = none
    · exact .inr (.inl ⟨h, h2.1, h2.2, by unfold topH; rw [if_neg h, if_pos h2]⟩)
    · exact .inr (.inr ⟨h, by unfold topH; rw [if_neg h, if_neg h2]⟩)
section
variable {P : Program} {w : World} {K : PySem.W.Frag} {mg mb : Str → Option Value} {a : Addr} {cs : List (Addr × Addr)} {s : Shared} {us : Array Value} {ns : List Int}
theorem top_env (kin : K.In s.heap) (gl : s.heap.Ns mainGlobals mg) (bl : s.heap.Ns builtinsNs mb) (bb : ∀ x : Str, x ≠ "__name__" → mb x = bootBuiltins x) (nl : s.heap.NoLimit) (ge : s.gens = #[])
    (tab : ∀ p ∈ cs, s.heap.get? p.2 = some { cls := .none, data := .fields #[] }) (ntab : ∀ p ∈ cs, K.lookup p.2 = none) (hd : ∀ p ∈ cs, PySem.W.CodeHd s.heap p.1 p.2)
    (bm : ∃ (m : Addr) (o : Obj), mg "__builtins__" = some (.ref m) ∧ m ≠ builtinsNs ∧ s.heap.get? m = some o ∧ o.cls = .type "module" ∧ o.dict = some builtinsNs ∧ o.data = .plain)
    (sc : s.heap.get? a = some { cls := .type "list", data := .seq us }) (rv : Vals (ns.map V.int) us.toList) (hl : ns.length ≤ sizeLine) :
    ∃ (H : Hp) (base : Heap), K.In base ∧ base.Ns mainGlobals mg ∧ (∀ p ∈ cs, LamX.TabB base mg p.1 p.2) ∧ (∀ p ∈ cs, H p.2 = some (.tbl #[])) ∧ SqL K H a (ns.map V.int) ∧ Env0 P w K mg base callerA [] s H ∧
      ∀ (H' : Hp) (s' : Shared), Un (frs []) [] H H' s.heap s'.heap → HOk P w H' s'.heap → OldK s.heap s'.heap := by
  have usl : us.size = ns.length := by
    have := vals_len rv
    rw [List.length_map, Array.length_toList] at this
    exact this.symm
  let ts := cs.map (·.2)
  have inT : ∀ p ∈ cs, p.2 ∈ ts := fun p hp => List.mem_map_of_mem hp
  have ofT : ∀ b ∈ ts, ∃ p ∈ cs, p.2 = b := fun b hb => List.mem_map.mp hb
  have tabT : ∀ b ∈ ts, s.heap.get? b = some { cls := .none, data := .fields #[] } := fun b hb => by
    obtain ⟨p, hp, rfl⟩ := ofT b hb
    exact tab p hp
  have aT : a ∉ ts := fun z => by
    have q := Option.some.inj (sc.symm.trans (tabT a z))
    have q2 : Data.seq us _ = Data.fields #[] := congrArg Obj.data q
    cases q2
  generalize hH : topH K a us ns ts = H
  have cas : ∀ b, (b ∈ ts ∧ H b = some (.tbl #[])) ∨ (b ∉ ts ∧ b = a ∧ K.lookup a = none ∧ H b = some (.frz { cls := .type "list", data := .seq us } (.lst (ns.map V.int)))) ∨ (b ∉ ts ∧ H b = none) := fun b => hH ▸ topH_cases b
  -- what is neither a list nor a table is not tracked
  have off : ∀ {b : Addr} {o : Obj}, s.heap.get? b = some o → (∀ vs n, o.data ≠ .seq vs n) → o.data ≠ .fields #[] → H b = none := fun {b o} ho h1 h2 => by
    rcases cas b with ⟨h, _⟩ | ⟨_, rfl, _, _⟩ | ⟨_, h⟩
    · rw [tabT b h] at ho
      cases ho
      exact absurd rfl h2
    · rw [sc] at ho
      cases ho
      exact absurd rfl (h1 _ _)
    · exact h
  have keepB : ∀ {b : Addr} {o : Obj}, s.heap.get? b = some o → H b = none → (hidT s.heap H).get? b = some o := fun ho hn => hidT_get ho hn
  have ns2 : ∀ {b : Addr} {m : Str → Option Value}, s.heap.Ns b m → (hidT s.heap H).Ns b m := by
    rintro b m ⟨o, es, ep, ho, hd, r⟩
    exact ⟨o, es, ep, keepB ho (off ho (fun _ _ z => by rw [hd] at z; cases z) (fun z => by rw [hd] at z; cases z)), hd, r⟩
  have kin2 : K.In (hidT s.heap H) := fun b o hb => keepB (kin b o hb) (by
    rcases cas b with ⟨h, _⟩ | ⟨_, rfl, h, _⟩ | ⟨_, h⟩
    · obtain ⟨p, hp, rfl⟩ := ofT b h
      exact absurd ((ntab p hp).symm.trans hb) (by simp)
    · exact absurd (h.symm.trans hb) (by simp)
    · exact h)
  have hok : HOk P w H s.heap := fun b u hb => by
    rcases cas b with ⟨h, e⟩ | ⟨_, rfl, _, e⟩ | ⟨_, e⟩
    · cases Option.some.inj (e.symm.trans hb)
      exact tabT b h
    · cases Option.some.inj (e.symm.trans hb)
      exact ⟨sc, by rw [List.length_map]; exact hl, us.toList, _, rv, sc⟩
    · exact absurd (e.symm.trans hb) (by simp)
  have sq : SqL K H a (ns.map V.int) := by
    cases hk : K.lookup a with
    | none => exact .inl (.inr ⟨{ cls := .type "list", data := .seq us }, by rw [← hH]; exact topH_a aT hk⟩)
    | some o =>
      cases Option.some.inj ((kin a o hk).symm.trans sc)
      exact .inr ⟨_, us, _, hk, rfl, rfl, rfl, by rw [usl]; exact hl, rv⟩
  have glB := ns2 gl
  refine ⟨H, hidT s.heap H, kin2, glB, fun p hp => ?_, fun p hp => ?_, sq, ?_, fun H' s' un hok' => ?_⟩
  · refine ⟨?_, ?_, fun z => ?_⟩
    · obtain ⟨o, vs, file, tf, flags, tg, inF, text, tt, e1, r1, r2, r3, more⟩ := hd p hp
      refine ⟨o, vs, file, tf, flags, tg, inF, text, tt, keepB e1 (off e1 (fun _ _ z => by rw [r2] at z; cases z) fun z => ?_), r1, r2, r3, more⟩
      rw [r2] at z
      cases z
      simp at r3
    · obtain ⟨m, o, b1, b2, b3, b4, b5, b6⟩ := bm
      refine ⟨m, o, b1, b2, fun q => ?_, fun q => ?_, keepB b3 (off b3 (fun _ _ z => by rw [b6] at z; cases z) fun z => by rw [b6] at z; cases z), b4, b5, b6⟩
      · obtain ⟨o', _, _, e, hd', _⟩ := gl
        rw [← q, b3] at e
        cases e
        rw [b6] at hd'
        cases hd'
      · rw [q, tab p hp] at b3
        cases b3
        cases b6
    · obtain ⟨o', _, _, e, hd', _⟩ := gl
      rw [z, tab p hp] at e
      cases e
      cases hd'
  · rw [← hH]
    exact topH_t (inT p hp)
  · obtain ⟨mc, n1, n2⟩ := nl
    exact ⟨rfl, ⟨kin2, glB, ⟨mb, ns2 bl, bb⟩, ⟨mc, ns2 n1, n2⟩⟩, fun b o z => of_hidT z, Nat.le_of_eq (hidT_size _ _), trivial, (fun b hb => absurd (show b ∈ ([] : List Addr) from hb) List.not_mem_nil), hok, .of_eq ge⟩
  · have still : ∀ b o, b ∉ ts → s.heap.get? b = some o → s'.heap.get? b = some o := fun b o nb ho => by
      rcases cas b with ⟨h, _⟩ | ⟨_, rfl, _, e⟩ | ⟨_, e⟩
      · exact absurd h nb
      · have := (hok' b _ (un.frzs b _ _ e)).1
        rw [sc] at ho
        cases ho
        exact this
      · exact un.keep b o ho e (fun z => nomatch z) (fun z => nomatch z)
    have grow : ∀ p ∈ cs, ∃ more : Array Value, s'.heap.get? p.2 = some { cls := .none, data := .fields more } := fun p hp => by
      obtain ⟨more, z⟩ := un.tbls p.2 #[] (by rw [← hH]; exact topH_t (inT p hp))
      exact ⟨_, hok' p.2 _ z⟩
    refine ⟨fun b o ho => ?_, fun b o ho => ?_⟩
    · by_cases hb : b ∈ ts
      · obtain ⟨p, hp, rfl⟩ := ofT b hb
        obtain ⟨more, hm⟩ := grow p hp
        cases Option.some.inj ((tab p hp).symm.trans ho)
        exact .inr (.inl ⟨((hd p hp).tab (tab p hp)).isCodeTable, rfl, #[], more, rfl, by rw [Array.empty_append]; exact hm⟩)
      · exact .inl (still b o hb ho)
    · by_cases hb : b ∈ ts
      · obtain ⟨p, hp, rfl⟩ := ofT b hb
        obtain ⟨more, hm⟩ := grow p hp
        exact ⟨_, hm⟩
      · exact ⟨o, still b o hb ho⟩
end
/-- what is known of the law's promise where it is called -/
def LawG (l : PySem.W.OpenLaw) (w : World) (K : PySem.W.Frag) (k n : Nat) (x : Str) (mg : Str → Option Value) (fa : Addr) (h : Heap) : Prop :=
  ∃ (fd : FuncData) (cs : List (Addr × Addr)) (sp : Sp), (∀ p ∈ cs, h.get? p.2 = some { cls := .none, data := .fields #[] }) ∧ (∀ p ∈ cs, K.lookup p.2 = none) ∧ (∀ p ∈ cs, PySem.W.CodeHd h p.1 p.2) ∧
    (∀ (s : Shared) (v : Value), BindsTo s fd ⟨[v], []⟩ [(x, v)]) ∧
    (∀ (H : Hp) (a : Addr) (ns : List Int), ns.length ≤ n → (∀ z ∈ ns, Builtin.Int.intBits z ≤ 1048576) → (∀ p ∈ cs, H p.2 = some (.tbl #[])) → SqL K H a (ns.map V.int) → sp [.ref a] H (fun v _ => v = .bl true) E0) ∧
    ∀ base : Heap, K.In base → base.Ns mainGlobals mg → (∀ p ∈ cs, LamX.TabB base mg p.1 p.2) → FnG l.prog w K mg base CX0 k fa fd [x] sp
theorem walk_ofG {l : PySem.W.OpenLaw} {n k : Nat} {q : Program} {loose : List Str} {XP : (Str → Option Value) → Heap → Prop} {YP : World → Heap → Prop} {d : DefRec} {K : Params → PySem.W.Frag} {x : Str}
    (hn : l.most = some n) (hn2 : n ≤ sizeLine) (hdf : d.params.defaults = []) (hr : RoomG k callerA) (hY : ∀ (w : World) (h : Heap), YP w h → (K w.params).In h)
    (F : ∀ (w : World) (mg : Str → Option Value) (fa : Addr) (h : Heap), YP w h → (K w.params).In h → h.Ns mainGlobals mg → mg d.name = some (.ref fa) → LawG l w (K w.params) k n x mg fa h) :
    PySem.W.WalkO q loose XP YP l.row.toRowW d [] (fun f vs => PySem.call f vs) := by
  refine Att.attach_callB hn hdf fun w s₀ s mg mb fa o pm cd doc a vs ns G Y ho hd hcd hmg hobj hints hlen hbits hg => ?_
  have kin := hY w _ Y
  obtain ⟨fd, cs, sp, t1, t2, t3, bd, hsp, hF⟩ := F w mg fa _ Y kin G.T.g hmg
  obtain ⟨H, base, e1, e2, e3, e4, e5, e6, e7⟩ := top_env (P := l.prog) (w := w) (us := vs.toArray) (ns := ns) kin G.T.g G.T.b G.T.builtins G.T.nolimit hg t1 t2 t3 G.T.bmain hobj (by simpa using vals_ints hints) (Nat.le_trans hlen hn2)
  refine codeAny_mono ((hF base e1 e2 e3).go callerA [] s H ⟨[.ref a], []⟩ [.ref a] [.ref a] _ _ hr e6 (bd s (.ref a)) (.cons rfl .nil) (hsp H a ns hlen hbits e4 e5)) ?_
  intro res s' hq
  match res, hq with
  | .error _, hq => exact False.elim hq
  | .ok (.ret u), ⟨v, H', os, bare, un, hok', ru, ev⟩ =>
    obtain rfl : v = .bl true := ev
    obtain rfl : u = Value.bool true := ru
    exact ⟨rfl, e7 H' s' un hok', os, bare⟩
end Fp

/-! defs that may raise, class methods, lambdas with captured names, len and bool of own things -/
namespace Fp
open PySem PySem.Spec PyProof.Rows L2 ClX
/-- a def that may raise, by name -/
def De (P : Program) (w : World) (K : PySem.W.Frag) (mg : Str → Option Value) (base : Heap) (k : Nat) (x : Str) (ps : List Str) (sp : Sp) : Prop :=
  ∃ f fd, mg x = some (.ref f) ∧ PySem.W.keepIn K (.ref f) = true ∧ Binds K fd ps [] ∧ FnOk P w K mg base (L2.CX P w) k f fd ps sp
/-- a class whose __init__ may raise; dvs: what its defaults are -/
def Ke (P : Program) (w : World) (K : PySem.W.Frag) (mg : Str → Option Value) (base : Heap) (k : Nat) (C : Addr) (ps : List Str) (dvs : List V) (sp : Sp) : Prop :=
  ∃ g fd ds, Mk K C g ∧ Binds K fd ps [] ∧ Binds K fd ps ds ∧ Vals dvs ds ∧ FnOk P w K mg base (L2.CX P w) k g fd ps sp
/-- a class method of the class at C -/
def Ce (P : Program) (w : World) (K : PySem.W.Frag) (mg : Str → Option Value) (base : Heap) (k : Nat) (C : Addr) (m : Str) (sp : Sp) : Prop :=
  ∃ mc p g, CRead K C mc ∧ CMet K C mc m p g ∧ FnR P w K mg base (L2.CX P w) k g sp
section
variable {X : Cx} {k : Nat} {C : Addr} {x m : Str} {ps : List Str} {dvs : List V} {sp : Sp} {E : XK} {p pos apos : Pos} {e o : Expr} {es : List Expr} {t : TA} {ta : TE} {pl : Sem Bool}
theorem pde (D : De X.prog X.w X.K X.mg X.base k x ps sp) (hr : Room k X.A) (hg : Gl X x) (hx : Passes (L2.CX X.prog X.w) X E) (ha : PA X (e :: es) t) (hdb : (x == ("__debug__" : Str)) = false := by decide)
    (he : starEach (e :: es) X.env = (false, eval e X.env) :: starEach es X.env := by rfl) (hpl : (backTo pos (starEach es X.env)).any (·.1) = false := by rfl) :
    PE X (.Call (.Name x p) (e :: es) [] pos) (tCall sp [] E t) := by
  obtain ⟨f, fd, h1, h2, h3, h4⟩ := D
  exact pe_call h4 hr hg h1 h2 h3 .nil hx ha hdb he hpl
theorem pke (M : Ke X.prog X.w X.K X.mg X.base k C ps dvs sp) (hr : Room (k + 1) X.A) (hg : Gl X x) (hm : X.mg x = some (.ref C)) (hx : Passes (L2.CX X.prog X.w) X E) (ha : PA X (e :: es) t)
    (hdb : (x == ("__debug__" : Str)) = false := by decide) (he : starEach (e :: es) X.env = (false, eval e X.env) :: starEach es X.env := by rfl) (hpl : (backTo pos (starEach es X.env)).any (·.1) = false := by rfl) :
    PE X (.Call (.Name x p) (e :: es) [] pos) (tMake C sp [] E t) := by
  obtain ⟨g, fd, ds, h1, h2, _, _, h3⟩ := M
  exact pe_make h1 h3 hr hg hm h2 .nil hx ha hdb he hpl
theorem pke0 (M : Ke X.prog X.w X.K X.mg X.base k C ps dvs sp) (hr : Room (k + 1) X.A) (hg : Gl X x) (hm : X.mg x = some (.ref C)) (hx : Passes (L2.CX X.prog X.w) X E)
    (hdb : (x == ("__debug__" : Str)) = false := by decide) :
    PE X (.Call (.Name x p) [] [] pos) (tMake C sp dvs E tNil) := by
  obtain ⟨g, fd, ds, h1, _, h2, hd, h3⟩ := M
  exact pe_make0 h1 h3 hr hg hm h2 hd hx hdb
/-- cls(e, ..), cls a name of the def that holds the class at C -/
def tMakeL (C : Addr) (i : Nat) (sp : Sp) (dvs : List V) (E : XK) (t : TA) : TE := fun σ H Q => σ[i]? = some (some (.ref C)) ∧ tMake C sp dvs E t σ H Q
theorem pkl {i : Nat} (M : Ke X.prog X.w X.K X.mg X.base k C ps dvs sp) (hr : Room (k + 1) X.A) (hN : X.N[i]? = some x) (hv : Vis X.env.scope x) (hx : Passes (L2.CX X.prog X.w) X E) (ha : PA X (e :: es) t)
    (hdb : (x == ("__debug__" : Str)) = false := by decide) (hcd : (x == ("__classdict__" : Str)) = false := by decide) (he : starEach (e :: es) X.env = (false, eval e X.env) :: starEach es X.env := by rfl) (hpl : (backTo pos (starEach es X.env)).any (·.1) = false := by rfl) :
    PE X (.Call (.Name x p) (e :: es) [] pos) (tMakeL C i sp [] E t) := by
  obtain ⟨g, fd, ds, h1, h2, _, _, h3⟩ := M
  refine ⟨fun pins s σ H Q I h => ?_⟩
  obtain ⟨hs, ht⟩ := h
  refine wpAny_Call_Name_kw (thn ((pe_var (pos := p) hN hv hdb hcd).run pins s σ H (fun v H1 => v = .ref C ∧ H1 = H) I ⟨.ref C, hs, rfl, rfl⟩) fun u s1 ⟨v, H1, I1, r1, q1⟩ => ?_)
  obtain ⟨rfl, rfl⟩ := q1
  cases r1
  refine PySem.W.callWith_K (h₀ := X.base) I.ok.mod.kin h1.kp (thn (ha.run pos pins s1 σ _ _ I1 ht) fun us s2 ⟨vs, H2, I2, r, q⟩ => ⟨I2.kIn, ?_⟩) he hpl
  exact run_make h1 h3 hr h2 .nil hx I2 r q
theorem pce (M : Ce X.prog X.w X.K X.mg X.base k C m sp) (hr : Room k X.A) (hx : Passes (L2.CX X.prog X.w) X E) (he : PE X o ta) (ha : PA X (e :: es) t)
    (hst : starEach (e :: es) X.env = (false, eval e X.env) :: starEach es X.env := by rfl) (hpl : (backTo pos (starEach es X.env)).any (·.1) = false := by rfl)
    (ht : eval (.Call (.Attribute o m apos) (e :: es) [] pos) X.env = (do
      let ov ← eval o X.env
      standAt apos.atName
      let (f, first) ← holding [ov] (getMethod ov m pl)
      callWith pos f first (backTo pos (starEach (e :: es) X.env)) (backToKw pos (keywordEach [] X.env))) := by rfl) :
    PE X (.Call (.Attribute o m apos) (e :: es) [] pos) (tCMeth C sp E ta t) := by
  obtain ⟨mc, p, g, h1, h2, h3⟩ := M
  exact pe_cmeth he h1 h2 h3 hr hx ha hst hpl ht
theorem pce0 (M : Ce X.prog X.w X.K X.mg X.base k C m sp) (hr : Room k X.A) (hx : Passes (L2.CX X.prog X.w) X E) (he : PE X o ta)
    (ht : eval (.Call (.Attribute o m apos) [] [] pos) X.env = (do
      let ov ← eval o X.env
      standAt apos.atName
      let (f, first) ← holding [ov] (getMethod ov m pl)
      callWith pos f first (backTo pos (starEach [] X.env)) (backToKw pos (keywordEach [] X.env))) := by rfl) :
    PE X (.Call (.Attribute o m apos) [] [] pos) (tCMeth C sp E ta tNil) := by
  obtain ⟨mc, q, g, r, c, F⟩ := M
  refine ⟨fun pins s σ H Q I h => ?_⟩
  refine PySem.W.methodCall_KW (pl := pl) (thn (he.run pins s σ H _ I h) fun u s1 ⟨x, H1, I1, rx, ex, q⟩ => ?_) ht
  subst ex
  obtain rfl : u = Value.ref C := rx
  refine getmethcm_ok I1 r c fun s2 I2 => ?_
  exact PySem.W.callWith_M0 (K := X.K) ⟨pin_at I2, I2.kIn⟩ c.fi (run_cm F hr hx I2 .nil q)
/-! ### len and bool of own things -/
def rOwnLen (C : Addr) (sp : Sp) : List V → Hp → VK → Prop := fun xs H Q => ∃ a dx fs, xs = [.ref a] ∧ H a = some (.ins C dx fs) ∧ sp [.ref a] H (fun v H' => ∃ n : Nat, v = .int n ∧ n < 1000000 ∧ Q (.int n) H') E0
theorem call_ownLen (M : Mn X.prog X.w X.K X.mg X.base k C "__len__" ps sp) (hr : Room (k + 1) X.A) : CallR X (.builtin "len") (rOwnLen C sp) := by
  intro pins s σ H xs us Q I r h
  obtain ⟨a, dx, fs, rfl, ha, q⟩ := h
  obtain ⟨u, rfl, ru⟩ := vals1 r
  obtain rfl : u = Value.ref a := ru
  obtain ⟨g, fd, h1, h2, h3⟩ := M
  obtain ⟨od, J⟩ := inst_of I ha
  obtain ⟨m, hF⟩ := I.fr
  refine PySem.W.len_K hF I.ok.mod.kin J h1.at_ h1.fn ?_
  have F := h3.raw (dvs := []) h2 .nil
  refine wpAny_mono (wpAny_call (SlX.run_at (us := [.ref a]) (ws := [.ref a]) F hr.in1 I.env0.in1 (E := E0) pass0 I (.cons rfl .nil) q)) (fun w s' z => ?_) fun _ _ x => x
  obtain ⟨z', H', I', rz, n, ei, hn, qz⟩ := z
  subst ei
  obtain ⟨t, e⟩ := (show ∃ t, w = Value.int n t from rz)
  subst e
  exact ⟨⟨by omega, by omega⟩, .int n, H', I'.tok _, ⟨_, rfl⟩, qz⟩
theorem bool_in {prog : Program} {w : World} (x : Value) : MeetsIn prog w (Builtin.«bool.__new__» ⟨[.type "bool", x], []⟩) (fun A R s => wpAny (model prog w) A.in1 (truthy x) (fun b s' => R (.ok (.ret (.bool b))) s') (fun e s' => R (.error e) s') s) := by
  intro A R s hs
  have f1 := F.conv_sub_bool
  unfold Builtin.«bool.__new__»
  refine wpAny_bind (m := isType (.type "bool")) (wpAny_of_eq (a := true) rfl ?_)
  refine wpAny_bind (m := isSubtype (.type "bool") (.type "bool")) (wpAny_of_eq (a := true) f1 ?_)
  refine wpAny_bind (m := someArgs "bool" 0 1 { pos := [x] }) (wpAny_of_eq (a := [x]) rfl ?_)
  refine wpAny_bind (wpAny_mono hs (fun b s' q => ?_) fun _ _ z => z)
  exact wpAny_pure q
def rOwnBool (C : Addr) (sp : Sp) : List V → Hp → VK → Prop := fun xs H Q => ∃ a dx fs, xs = [.ref a] ∧ H a = some (.ins C dx fs) ∧ sp [.ref a] H (fun v H' => ∃ b : Bool, v = .bl b ∧ Q (.bl b) H') E0
theorem call_boolAny {x : Value} {prog : Program} {w : World} {A : Around} {Q E : Value → Shared → Prop} {s : Shared} (h : wpAny (model prog w) A.in1.in1 (truthy x) (fun b s' => Q (.bool b) s') E s) : wpAny (model prog w) A (call (.type "bool") [x]) Q E s :=
  callType_newIn F.called_bool F.newNe_bool (F.typeCall_bool_1 x) (F.newCall_bool_1 x) (fun obj => F.args_object_init_2 obj x) F.entry_bool_new (bool_in x) (wpAny_mono h (fun b s' q => ⟨rfl, q⟩) fun _ _ z => z)
theorem call_ownBool (M : Mn X.prog X.w X.K X.mg X.base k C "__bool__" ps sp) (hr : Room (k + 2) X.A) : CallR X (.type "bool") (rOwnBool C sp) := by
  intro pins s σ H xs us Q I r h
  obtain ⟨a, dx, fs, rfl, ha, q⟩ := h
  obtain ⟨u, rfl, ru⟩ := vals1 r
  obtain rfl : u = Value.ref a := ru
  obtain ⟨g, fd, h1, h2, h3⟩ := M
  obtain ⟨od, J⟩ := inst_of I ha
  obtain ⟨m, hF⟩ := I.fr
  have F := h3.raw (dvs := []) h2 .nil
  have hr2 : Room k X.A.in1.in1 := (show Room (k + 1) X.A.in1 from Room.in1 hr).in1
  refine call_boolAny (PySem.W.truthy_K hF I.ok.mod.kin J h1.at_ h1.fn ?_)
  refine wpAny_mono (wpAny_call (SlX.run_at (us := [.ref a]) (ws := [.ref a]) F hr2 I.env0.in1.in1 (E := E0) pass0 I (.cons rfl .nil) q)) (fun w s' z => ?_) fun _ _ x => x
  obtain ⟨z', H', I', rz, b, ei, qz⟩ := z
  subst ei
  obtain rfl : w = Value.bool b := rz
  exact ⟨.bl b, H', I', rfl, qz⟩
/-- bool(a tuple) -/
def rBoolT (K : PySem.W.Frag) : List V → Hp → VK → Prop := fun xs H Q => ∃ a ys, xs = [.ref a] ∧ SqT K H a ys ∧ Q (.bl (!ys.isEmpty)) H
theorem call_boolT {K : PySem.W.Frag} (hK : X.K = K := by rfl) : CallR X (.type "bool") (rBoolT K) := by
  subst hK
  intro pins s σ H xs us Q I r h
  obtain ⟨a, ys, rfl, hq, q⟩ := h
  obtain ⟨u, rfl, ru⟩ := vals1 r
  obtain rfl : u = Value.ref a := ru
  obtain ⟨its, r', pl, hz⟩ := I.tuple hq
  have hlen := r'.length
  have hl := line63
  refine call_boolAny (truthy_tuple pl (by simp only [List.size_toArray]; omega) ?_)
  exact ⟨.bl (!ys.isEmpty), H, I.tok _, by rw [isEmpty_of r']; rfl, q⟩
/-- list(d), d a dict that the top has written -/
def rListKK (K : PySem.W.Frag) : List V → Hp → VK → Prop := fun xs H Q => ∃ d zs, xs = [.ref d] ∧ KKeys K d zs ∧ zs.length ≤ 1000 ∧ ∀ l, H l = none → Q (.ref l) (upd H l (.lst (zs.map V.str)))
theorem call_listKK {K : PySem.W.Frag} (hc : X.calm = true) (hK : X.K = K := by rfl) : CallR X (.type "list") (rListKK K) := by
  subst hK
  intro pins s σ H xs us Q I r h
  obtain ⟨d, zs, rfl, ⟨⟨es, n, hl, hk⟩, low⟩, hz, q⟩ := h
  obtain ⟨u, rfl, ru⟩ := vals1 r
  obtain rfl : u = Value.ref d := ru
  obtain ⟨hs, hat⟩ := KKeys.at (K := X.K) (d := d) (n := n) hk
  have raw : s.heap.DictRaw d es n := ⟨_, I.kIn d _ hl, ⟨rfl, rfl, rfl⟩, rfl⟩
  refine PySem.W.kdl_call (PySem.KdlSrc.rawDict low) (I.ok.hd hc) raw (by rw [sizeLine_eq]; omega) fun h' tk acc c kp e it => ?_
  obtain ⟨i1, i2⟩ := it
  have rv : Vals (zs.map V.str) acc.toList := by
    refine vals_of_at (by simp only [List.length_map, Array.length_toList]; omega) fun j v u hv hu => ?_
    obtain ⟨hj, e1⟩ := i2 j u (by rw [← Array.getElem?_toList]; exact hu)
    obtain ⟨z, t, hz2, hk2⟩ := hat j hj
    rw [List.getElem?_map, hz2] at hv
    cases hv
    exact ⟨t, by rw [e1, hk2]⟩
  have hzl : (zs.map V.str).length ≤ sizeLine := by rw [List.length_map]; exact Nat.le_of_lt (small1000 hz)
  exact ⟨.ref s.heap.objs.size, _, I.laid (t' := tk) kp (Nat.le_refl _) (show ObjOk X.prog X.w _ h' _ (.lst (zs.map V.str)) from ⟨hzl, acc.toList, c, rv, e⟩), rfl, q _ (I.hok.fresh (Nat.le_refl _))⟩
/-! ### x(lambda: ..), the lambda with captured names -/
/-- the def x calls the lambda that it gets; TT: what it makes of the lambda's reading -/
def LcOk (P : Program) (w : World) (K : PySem.W.Frag) (mg : Str → Option Value) (base : Heap) (x : Str) (TT : (XK → Hp → VK → Prop) → Hp → VK → Prop) : Prop :=
  ∃ (g : Addr) (oc : Value) (od : Option Addr) (osl : Array (Option Value)) (pg : Arguments) (bg : List Stmt) (sg : Scope) (dV kV doc pm cdv ct : Value) (an : Option Addr) (Ng : List Str) (a : Str),
    mg x = some (.ref g) ∧ PySem.W.keepIn K (.ref g) = true ∧ K.lookup g = some ⟨oc, od, .func (PySem.W.fnOf x x pg bg sg dV kV doc pm an cdv ct), osl⟩ ∧ PySem.W.codeIn K cdv x = true ∧ Binds K (PySem.W.fnOf x x pg bg sg dV kV doc pm an cdv ct) [a] [] ∧
    FnScope Ng [a] sg ∧ Ng[0]? = some a ∧ Vis sg a ∧ (a == ("__debug__" : Str)) = false ∧ (a == ("__classdict__" : Str)) = false ∧
    ∀ (X : Cx) (q : Str), X.prog = P → X.w = w → X.K = K → X.mg = mg → X.base = base → LamX.GivesTo X Ng x sg g cdv bg a q TT
theorem pe_lcall {T : List (Addr × Str)} {TT : (XK → Hp → VK → Prop) → Hp → VK → Prop} {params : Arguments} {body : Expr} {scope : Scope} {t : XK → TE} {lpos : Pos} (G : LcOk X.prog X.w X.K X.mg X.base x TT) (hg : Gl X x)
    (M : Mak X.base X.mg T X.env.code (X.env.qual ++ "<lambda>")) (hr : Room (k + 2) X.A) (L : LamX.lamSB X.env.scope scope = true) (hdef : defaultsOf params X.env = ([], []))
    (hbind : ∀ (q : Str) (cl : List (Str × Addr)) (pm cv ctv : Value), bindArgs (PySem.W.kla_fn "<lambda>" q params body scope cl pm cv ctv) ⟨[], []⟩ = pure [])
    (hbody : ∀ (A : Around) (outer : List Env) (s : Shared) (H : Hp) (E : XK) (f c' : Addr), Room k (A.deeper (LamX.lamEnv X scope s.heap.objs.size f c')) → PE (LamX.lamCx X A outer s H E scope f c') body (t E))
    (hdb : (x == ("__debug__" : Str)) = false := by decide) :
    PE X (.Call (.Name x p) [.Lambda params body scope lpos] [] pos) (LamX.tLam T TT t) := by
  obtain ⟨g, oc, od, osl, pg, bg, sg, dV, kV, doc, pm, cdv, ct, an, Ng, a, h1, h2, h3, h4, h5, h6, h7, h8, h9, h10, h11⟩ := G
  obtain ⟨c, P, m1, m2, m3, m4⟩ := M.ex
  exact LamX.pe_lamcall hg h1 h2 h3 h4 h5 h6 h7 h8 (h11 X _ rfl rfl rfl rfl rfl) m2 m1 m3 m4 hr (LamX.lamS_by L) hdef hbind hbody hdb h9 h10
end
/-! ### raise C(e): an own class with one attribute -/
def spIN (C : Addr) (f : Str) : Sp := fun vs H Q _ => ∃ a v, vs = [.ref a, v] ∧ H a = some (exo a C none) ∧
  ∀ H' dx, H dx = none → (∀ b o, H b = some o → b ≠ a → H' b = some o) → H' a = some (exo a C (some dx)) → H' dx = some (exd dx [(f, v)]) → Q .non H'
theorem iniN {K : PySem.W.Frag} {FE C a : Addr} {f : Str} {v : V} {H : Hp} {Q : VK} (e : EC K FE C) (nf : PySem.W.findIn K (.ref C) f = some none) (h : H a = some (exo a C none))
    (q : ∀ H' dx, H dx = none → (∀ b o, H b = some o → b ≠ a → H' b = some o) → H' a = some (exo a C (some dx)) → H' dx = some (exd dx [(f, v)]) → Q .non H') :
    tOst K f (tVar 0) (tVar 1) { nx := fun _ H' => Q .non H', rt := Q } [some (.ref a), some v] H :=
  ⟨v, rfl, .ref a, rfl, a, C, rfl, e.oex, nf, .inl ⟨h, fun dx hd hn => q _ dx hd (fun c o hc hne => by rw [upd_ne hne, upd_ne (ne_of_none hc hd)]; exact hc) upd_same (by rw [upd_ne hn, upd_same])⟩⟩
/-- the own exception class with the attribute f -/
def Xe (P : Program) (w : World) (K : PySem.W.Frag) (mg : Str → Option Value) (base : Heap) (C : Addr) (f : Str) : Prop :=
  ∃ fI fd, OexC K C ∧ PySem.W.findIn K (.ref C) "__init__" = some (some (.ref fI)) ∧ PySem.W.typeIn K (.ref fI) = some (.type "function") ∧ Binds K fd ["self", f] [] ∧ FnOk P w K mg base CX0 1 fI fd ["self", f] (spIN C f)
def tRaiseN (C : Addr) (f : Str) (te : TE) (W : WX) : TS := fun _ σ H => te σ H fun v H1 => [v].length ≤ 1000 ∧ ∀ a, H1 a = none → spIN C f [.ref a, v] (upd H1 a (exo a C none))
  (fun u H2 => u = .non ∧ ∃ (d : Addr) (fs : List (Str × V)), H2 a = some (exo a C (some d)) ∧ H2 d = some (exd d fs) ∧ H1 d = none ∧ W (.ref C) (some d) σ (upd (del H2 a) d (.xd fs))) (fun _ _ _ => False)
theorem ps_raiseN {X : Cx} {C : Addr} {f x : Str} {W : WX} {e : Expr} {te : TE} {p pos pos' : Pos} (M : Xe X.prog X.w X.K X.mg X.base C f) (hr : Room 2 X.A) (hg : Gl X x) (hm : X.mg x = some (.ref C)) (hc : X.calm = true) (tk : Takes X W) (he : PE X e te)
    (hdb : (x == ("__debug__" : Str)) = false := by decide) (hst : starEach [e] X.env = (false, eval e X.env) :: starEach [] X.env := by rfl) :
    PS X (.Raise (some (.Call (.Name x p) [e] [] pos)) none pos') (tRaiseN C f te W) := by
  obtain ⟨fI, fd, T, iC, tI, hb, F1⟩ := M
  exact ps_raise (pos := pos') hc tk (pmk_oex (p := p) (pos := pos) T iC tI F1 hr hb .nil pass0 hg hm (pa_cons he pa_nil (hs := hst)) hdb hst rfl)
theorem raiseN_go {C : Addr} {f : Str} {v : V} {W : WX} {σ : L2.St} {H : Hp} (q : ∀ d H', H d = none → Same H H' → H' d = some (.xd [(f, v)]) → W (.ref C) (some d) σ H') :
    [v].length ≤ 1000 ∧ ∀ a, H a = none → spIN C f [.ref a, v] (upd H a (exo a C none))
      (fun u H2 => u = .non ∧ ∃ (d : Addr) (fs : List (Str × V)), H2 a = some (exo a C (some d)) ∧ H2 d = some (exd d fs) ∧ H d = none ∧ W (.ref C) (some d) σ (upd (del H2 a) d (.xd fs))) (fun _ _ _ => False) := by
  refine ⟨(by decide : 1 ≤ 1000), fun a ha => ⟨a, v, rfl, upd_same, fun H2 dx hd k h1 h2 => ⟨rfl, dx, _, h1, h2, ?_, ?_⟩⟩⟩
  · have n : dx ≠ a := fun z => by rw [z, upd_same] at hd; cases hd
    rw [upd_ne n] at hd
    exact hd
  · have n : dx ≠ a := fun z => by rw [z, upd_same] at hd; cases hd
    rw [upd_ne n] at hd
    refine q dx _ hd (fun b o hb => ?_) upd_same
    rw [upd_ne (ne_of_none hb hd), del_ne (ne_of_none hb ha)]
    exact k b o (by rw [upd_ne (ne_of_none hb ha)]; exact hb) (ne_of_none hb ha)
theorem raise_var {C : Addr} {f : Str} {v : V} {W : WX} {D : Ends} {σ : L2.St} {H : Hp} {i : Nat} (h : σ[i]? = some (some v)) (q : ∀ d H', H d = none → Same H H' → H' d = some (.xd [(f, v)]) → W (.ref C) (some d) σ H') : tRaiseN C f (tVar i) W D σ H :=
  ⟨v, h, raiseN_go (W := W) (σ := σ) q⟩
/-- the slots are as many as the names -/
theorem takes_len {X : Cx} {W : WX} (tk : Takes X W) : Takes X (fun cls d σ H => σ.length = X.N.length → W cls d σ H) := fun u s' x => by
  obtain ⟨a, B, sJ, pins, σ, H, cls, d, e, J, nb, up, sky, na, os, ag, h⟩ := x
  exact tk u s' ⟨a, B, sJ, pins, σ, H, cls, d, e, J, nb, up, sky, na, os, ag, h J.len⟩
theorem pss_ex {X : Cx} {b : List Stmt} {α : Sort 1} {Pr : α → Prop} {t : α → TS} (h : ∀ x, Pr x → PSs X b (t x)) : PSs X b (fun D σ H => ∃ x, Pr x ∧ t x D σ H) :=
  ⟨fun pins s σ H D I ⟨x, hp, ht⟩ => (h x hp).run pins s σ H D I ht⟩
/-- a def whose code object is known, no repr around -/
theorem fnG_cd {P : Program} {w : World} {K : PySem.W.Frag} {mg : Str → Option Value} {base : Heap} {x qual : Str} {st : Stmt} {f : Addr} {N ps : List Str} {k : Nat} {sp : Sp} {oc kV doc pm cdv ct : Value} {od an : Option Addr} {osl : Array (Option Value)}
    (lk : K.lookup f = some ⟨oc, od, .func (PySem.W.fnOf x qual (defArgs st) (defBody st) (defScope st) .none kV doc pm an cdv ct), osl⟩) (hcd : PySem.W.codeIn K cdv qual = true) (S : FnScope N ps (defScope st)) (len : ∀ vs H Q E, sp vs H Q E → vs.length = ps.length)
    (hb : ∀ (A : Around) (outer : List Env) (s : Shared) (H : Hp) (vs : List V) (Q : VK) (E : XK), RoomG k (A.deeper (envOfC qual (defScope st) s.heap.objs.size f cdv)) → sp vs H Q E →
      ∃ t, PSs (cxOf CX0 P w K mg base N qual (defScope st) f cdv A outer s H E).nox (defBody st) t ∧ t { nx := fun _ H' => Q .non H', rt := Q } (start N vs) H) :
    FnG P w K mg base CX0 (k + 1) f (PySem.W.fnOf x qual (defArgs st) (defBody st) (defScope st) .none kV doc pm an cdv ct) ps sp := by
  refine ⟨len, fun A outer s H args us vs Q E hr e0 bd rv hsp => ?_⟩
  have kin : K.In s.heap := e0.mod.kin.keeps fun b o z => (e0.bs b o z).1
  have nol : s.heap.NoLimit := e0.mod.nolimit.keeps fun b o z => (e0.bs b o z).1
  have kinds : ∀ y ∈ ps.zip us, (defScope st).names.lookup y.1 = some .local ∨ ((defScope st).names.lookup y.1 = some .cell ∧ ((cellsFrom (s.heap.objs.size + 1) (defScope st).names []).lookup y.1).isSome = true) := by
    rintro ⟨n, v⟩ hy
    cases S.par n (List.of_mem_zip hy).1 with
    | inl z => exact .inl z
    | inr z => exact .inr ⟨z, PySem.W.cellsFrom_some _ _ _ (.inl z)⟩
  refine codeAny_call_function hr.r.depth (kin _ _ lk) rfl S.co S.gen rfl (PySem.W.codeRec_of kin hcd) (bd _ _ _ _ (wpAny_newFunctionEnv_cells S.kind kinds fun env he s1 x => ?_))
  cases he
  refine ⟨nol.keeps x.toInCall.keep, codeAny_func ?_⟩
  obtain ⟨t, pt0, ht⟩ := hb A outer s H vs Q E (hr.deep _) hsp
  have pt := pt0.nox
  refine wpAny_mono (pt.run [] s1 (start N vs) H _ (inv_start S hr.r.hd e0 (len _ _ _ _ hsp) rv x) ht) ?_ (fun e s' z => z)
  intro fl s' hs
  match fl, hs with
  | .ret u, ⟨v, σ', H', J, r2, q⟩ => exact ⟨v, H', J.os, J.bare, J.base, J.hok, r2, q⟩
  | .next, ⟨σ', H', J, q⟩ => exact ⟨V.non, H', J.os, J.bare, J.base, J.hok, (show RelV V.non Value.none from rfl), q⟩
  | .brk, ⟨_, _, _, q⟩ => exact False.elim q
  | .cont, ⟨_, _, _, q⟩ => exact False.elim q
/-- a list changes, the tables stay -/
theorem tabs_lst {T : List (Addr × Str)} {H : Hp} {l : Addr} {xs : List V} {o : HO} (hl : H l = some (.lst xs)) (t : LamX.Tabs T H) : LamX.Tabs T (upd H l o) := fun x hx => by
  obtain ⟨ps, h1, h2, h3⟩ := t x hx
  refine ⟨ps, ?_, h2, fun pos cv hc => ?_⟩
  · rw [upd_ne (ne_of h1 hl (by intro z; cases z))]
    exact h1
  · obtain ⟨c, e1, e2⟩ := h3 pos cv hc
    refine ⟨c, e1, ?_⟩
    rw [upd_ne (ne_of e2 hl ?_)]
    · exact e2
    · intro z
      unfold LamX.CodeO at z
      cases z
end Fp

namespace Fp
open PySem PySem.Spec PyProof.Rows L2 ClX
local macro_rules | `(tactic| walk_at "rd") => `(tactic| simp only [cxK, cxKn, tRet, tRetN, rIntI, rIntB, rLenL, rListL, rListT, rAbs, tDisp, tPairs, tC, tCB, tCons, tNil, tSl, tVar, tNoPart, tPart, rSlL, tOp, tAsg, gName, tIfS, tDrop, tTest, tAnd, tOr, Evl.tCut, tNot, tB, rI0, rI, rIxL, rIxT, rIxD, tDGet, sDPut, tLst, tTup, tBM, tBM0, tPar, rAppend, rPopAt, rPop, rExtend, rTupL, tCall, tNext, rAll, rOwnIn, rOwn2, rCat, lc_iL, lc_iT, lc_iK, lc_iR, lc_iE, fr_iL, fr_iT, fr_iR, tYes, rIn, rEq, rNe, gTup, gCons, gNil, wipe, tMeth, tFld, sFld, tMake, tProp, tIf, tAndV, tOrV, tNotV, tTru, rIsi, rSum, tRevL, rU, tUn, rIxS, iEnum, if_true, if_false, Bool.false_eq_true, List.map_cons, List.map_nil, List.nil_append, List.append_nil, List.cons_append, List.getElem?_cons_zero, List.getElem?_cons_succ, Option.some.injEq, exists_and_left, exists_eq_left', exists_eq_left, List.cons.injEq, and_true, true_and, V.ref.injEq, V.int.injEq, V.str.injEq, V.bl.injEq, List.set_cons_zero, List.set_cons_succ])
def topS (i : Nat) : Stmt := PySem.Challenge.pw_foldplans_k01_rules_made.main.body.getD i (.Pass ⟨0, 0, 0, 0⟩)
section
variable {K : PySem.W.Frag} {P : Program} {w : World} {base : Heap} {mg : Str → Option Value} {aR aD C : Addr} {T : Nat → Addr}
abbrev s__law_pen : Stmt := topS 15
theorem sc__law_pen : FnScope ["script"] ["script"] (defScope s__law_pen) := ⟨rfl, rfl, rfl, by decide +kernel, rfl, by decide +kernel, by decide +kernel⟩
theorem ok_pen {f : Addr} {fd : FuncData} (F : Fun K "_law_pen" "_law_pen" s__law_pen f fd) (m_list : mg "list" = none) : FnOk P w K mg base CX0 1 f fd ["script"] (spPen K) := by
  refine F.ok sc__law_pen (fun vs H Q E h => ?_) (fun cdv A outer s H vs Q E hr h => ?_)
  · obtain ⟨a, ns, rfl, _⟩ := h
    rfl
  · obtain ⟨a, ns, rfl, hS, hlen, q⟩ := h
    refine ⟨_, (pss_one (ps_ret (pe_disp (pps_cons pe_str (pe_callTy call_listL (by rfl) m_list (by decide +kernel) (pa_cons (pe_slice sl_list (pv 0) po_none (po_some pe_int)) pa_nil)) (pps_cons pe_str pe_int (pps_cons pe_str pe_int pps_nil))) rfl rfl (by simp) (by decide)))), ?_⟩
    show tRet _ _ [some (.ref a)] H
    walk_at "rd"
    intro p hp
    refine ⟨_, (same_new hp).seq hS, fun c hc => ⟨_, .inl (.inl upd_same), fun l hl => ⟨?_, penK l 0 0, rfl, (show 3 ≤ 15 by decide), ?_⟩⟩⟩
    · have h1 : p ≠ l := ne_of_none (show upd (upd H p (.dK [])) c _ p = some _ by rw [upd_ne (ne_of_none upd_same hc), upd_same]) hl
      rw [upd_ne h1, upd_ne (ne_of_none upd_same hc), upd_same]
    · refine q _ p l hp ?_ ⟨ns.take 63, 0, 0, upd_same, ?_, ?_, by decide, by decide⟩
      · exact Same.mut (Same.new (Same.new (same_new hp) hc) hl) hp
      · have h1 : p ≠ l := ne_of_none (show upd (upd H p (.dK [])) c _ p = some _ by rw [upd_ne (ne_of_none upd_same hc), upd_same]) hl
        rw [upd_ne h1.symm, upd_same, show (63 : Int) = ((63 : Nat) : Int) from rfl, cut_to, List.map_take]
      · rw [List.length_take]; omega
abbrev s__law_draw : Stmt := topS 16
theorem sc__law_draw : FnScope ["pen", "span", "digit", "turn", "cell", "mixed"] ["pen", "span"] (defScope s__law_draw) := ⟨rfl, rfl, rfl, by decide +kernel, rfl, by decide +kernel, by decide +kernel⟩
theorem ok_draw {f : Addr} {fd : FuncData} (F : Fun K "_law_draw" "_law_draw" s__law_draw f fd) (m_int : mg "int" = none) (m_len : mg "len" = none) (m_abs : mg "abs" = none) : FnOk P w K mg base CX0 1 f fd ["pen", "span"] spDraw := by
  refine F.ok sc__law_draw (fun vs H Q E h => ?_) (fun cdv A outer s H vs Q E hr h => ?_)
  · obtain ⟨p, c, span, t, rfl, _⟩ := h
    rfl
  · obtain ⟨p, c, span, t, rfl, hP, ht, hs0, hs1, q⟩ := h
    have hu := hu_of hr
    have hu64 := hr.units
    refine ⟨_, (pss_cons (ps_if (pt_cmpR op_gt (pe_dget hu (pv 0) pe_str (fun _ _ => rfl)) pe_int (nomark _))
      (pss_cons (ps_set (i := 2) sc__law_draw.nd rfl (.inl rfl) (pe_op op_mod (pe_callTy call_intI (by rfl) m_int (by decide +kernel) (pa_cons (pe_dget hu (pv 0) pe_str (fun _ _ => rfl)) pa_nil)) (pv 1)))
        (pss_cons (ps_dput hu (pv 0) pe_str (pe_op op_fdivW (pe_dget hu (pv 0) pe_str (fun _ _ => rfl)) (pv 1)) rfl)
        (pss_one (ps_ret (pv 2)))))
      pss_nil)
    (pss_cons (ps_set (i := 3) sc__law_draw.nd rfl (.inl rfl) (pe_dget hu (pv 0) pe_str (fun _ _ => rfl)))
    (pss_cons (ps_dput hu (pv 0) pe_str (pe_op op_add (pv 3) pe_int) rfl)
    (pss_cons (ps_set (i := 4) sc__law_draw.nd rfl (.inl rfl) (pe_op op_add (pe_op op_mul pe_int (pv 3)) pe_int))
    (Evl.pss_cut (ps_if (pt_cmpR (op_neD hu64) (pe_dget hu (pv 0) pe_str (fun _ _ => rfl)) (pe_lst pa_nil) (nomark _))
      (pss_one (ps_set (i := 4) sc__law_draw.nd rfl (.inl rfl) (pe_ix ix_list (pe_dget hu (pv 0) pe_str (fun _ _ => rfl)) (pe_op op_mod (pe_callTy call_intI (by rfl) m_int (by decide +kernel) (pa_cons (pv 3) pa_nil)) (pe_callB call_lenL (by rfl) m_len PySem.boot_len (pa_cons (pe_dget hu (pv 0) pe_str (fun _ _ => rfl)) pa_nil))) (fun _ _ => rfl))))
      pss_nil)
    (pss_cons (ps_if (PW.pt (pw_and (pt_cmpR op_lt (pv 3) (pe_callB call_lenL (by rfl) m_len PySem.boot_len (pa_cons (pe_dget hu (pv 0) pe_str (fun _ _ => rfl)) pa_nil)) (nomark _)) (pw_and1 (pt_cmpR op_ge (pe_callB call_absI (by rfl) m_abs (by decide +kernel) (pa_cons (pv 4) pa_nil)) (pe_op op_pow pe_int pe_int) (nomark _)))))
      (pss_cons (ps_dput hu (pv 0) pe_str (pe_op op_fdivW (pe_op op_sub (pe_callB call_absI (by rfl) m_abs (by decide +kernel) (pa_cons (pv 4) pa_nil)) (pe_op op_pow pe_int pe_int)) (pv 1)) rfl)
        (pss_one (ps_ret (pe_op op_mod (pe_callTy call_intI (by rfl) m_int (by decide +kernel) (pa_cons (pe_op op_sub (pe_callB call_absI (by rfl) m_abs (by decide +kernel) (pa_cons (pv 4) pa_nil)) (pe_op op_pow pe_int pe_int)) pa_nil)) (pv 1)))))
      pss_nil)
    (pss_cons (ps_set (i := 5) sc__law_draw.nd rfl (.inl rfl) (pe_op op_mul (pe_op op_mod (pe_callTy call_intI (by rfl) m_int (by decide +kernel) (pa_cons (pv 4) pa_nil)) pe_int) pe_int))
    (pss_cons (ps_set (i := 5) sc__law_draw.nd rfl (.inl rfl) (pe_op op_mod (pe_callTy call_intI (by rfl) m_int (by decide +kernel) (pa_cons (pe_op op_add (pe_op op_add (pv 5) (pe_op op_mul (pv 3) (pe_op op_add (pe_op op_mul (pv 3) pe_int) pe_int))) pe_int) pa_nil)) pe_int))
    (pss_cons (ps_set (i := 5) sc__law_draw.nd rfl (.inl rfl) (pe_op op_mod (pe_callTy call_intI (by rfl) m_int (by decide +kernel) (pa_cons (pe_op op_mul (pv 5) (pe_op op_add (pv 5) pe_int)) pa_nil)) pe_int))
    (pss_cons (ps_set (i := 5) sc__law_draw.nd rfl (.inl rfl) (pe_op op_mod (pe_callTy call_intI (by rfl) m_int (by decide +kernel) (pa_cons (pe_op op_add (pe_op op_add (pe_op op_mul (pv 5) (pv 5)) (pe_op op_mul pe_int (pv 5))) (pe_op op_mul pe_int (pv 3))) pa_nil)) pe_int))
    (pss_one (ps_ret (pe_op op_mod (pe_callTy call_intI (by rfl) m_int (by decide +kernel) (pa_cons (pe_op op_fdivW (pe_op op_mod (pe_callTy call_intI (by rfl) m_int (by decide +kernel) (pa_cons (pe_op op_mul (pv 5) (pe_op op_add (pv 5) pe_int)) pa_nil)) pe_int) pe_int) pa_nil)) (pv 1)))))))))))))), ?_⟩
    show tSeq _ _ _ [some (.ref p), some (.int span), none, none, none, none] H
    obtain ⟨cells, turn, left, h1, h2, h3, h4, h5⟩ := hP.ex
    have hmul : ∀ x : Int, 0 ≤ x → x < 4294967296 → ∀ y, CMul x y := fun x h0 h1 y => .inl ⟨by omega, by omega⟩
    refine seqi fun k hk => ?_
    walk_at "rd"
    refine dg_s h1 (pen_left _ _ _) ⟨_, rfl, ite2 (fun hl => ?_) (fun hl => ?_)⟩
    · refine seqi fun k hk => ?_
      walk_at "rd"
      refine dg_s h1 (pen_left _ _ _) ⟨_, rfl, hs0, ?_⟩
      subst hk
      refine seqi fun k hk => ?_
      walk_at "rd"
      refine dg_s h1 (pen_left _ _ _) ⟨_, rfl, ⟨hs0, hs1⟩, ?_⟩
      refine dp_s h1 (pen_len _ _ _) ?_
      rw [pen_putL]
      subst hk
      walk_at "rd"
      refine q _ _ (Int.emod_nonneg _ (by omega)) (Int.emod_lt_of_pos _ hs0) ⟨cells, turn, _, upd_same, ?_, h3, h4, by omega⟩ ⟨fun b o hb n => by rw [upd_ne n]; exact hb, fun _ => by rw [upd_same]; intro z; cases z⟩
      rw [upd_ne (ne_of h2 h1 (by intro z; cases z))]
      exact h2
    · subst hk
      refine seqi fun k hk => ?_
      walk_at "rd"
      refine dg_s h1 (pen_turn _ _ _) ?_
      subst hk
      refine seqi fun k hk => ?_
      walk_at "rd"
      refine dp_s h1 (pen_len _ _ _) ?_
      rw [pen_putT]
      have b1 : But p H (upd H p (.dK (penK c (turn + 1) left))) := ⟨fun b o hb n => by rw [upd_ne n]; exact hb, fun _ => by rw [upd_same]; intro z; cases z⟩
      have h1' : (upd H p (.dK (penK c (turn + 1) left))) p = some (.dK (penK c (turn + 1) left)) := upd_same
      have h2' : (upd H p (.dK (penK c (turn + 1) left))) c = some (.lst (cells.map V.int)) := by
        rw [upd_ne (ne_of h2 h1 (by intro z; cases z))]
        exact h2
      revert h1' h2' b1
      generalize (upd H p (.dK (penK c (turn + 1) left))) = H1
      intro b1 h1' h2'
      subst hk
      refine seqi fun k hk => ?_
      walk_at "rd"
      subst hk
      refine ⟨.inl ⟨by decide, by decide⟩, fun σ' H' => ∃ cell : Int, σ' = [some (.ref p), some (.int span), none, some (.int turn), some (.int cell), none] ∧ Same H1 H', ?_, ?_⟩
      · walk_at "rd"
        refine dg_s h1' (pen_cells _ _ _) ⟨Nat.zero_le _, fun d hd => ?_⟩
        have s2 : Same H1 (upd H1 d (.lst [])) := same_new hd
        have hc : SqL K (upd H1 d (.lst [])) c (cells.map V.int) := .inl (.inl (s2 _ _ h2'))
        refine ne_nil hc (dp_ints _ _ _) (shaped_ints _) upd_same ⟨_, rfl, ite2 (fun hn => ?_) (fun hn => ?_)⟩
        · have h0 : cells ≠ [] := fun z => by
            subst z
            exact absurd hn (by decide)
          obtain ⟨v, hv⟩ := ix_mod (ns := cells) (t := turn) h0
          have hl0 : (0 : Int) < ((cells.map V.int).length : Nat) := by
            rw [List.length_map]
            cases cells with
            | nil => exact absurd rfl h0
            | cons x r => show (0 : Int) < ((r.length + 1 : Nat) : Int); omega
          exact dg_s (s2 _ _ h1') (pen_cells _ _ _) (dg_s (s2 _ _ h1') (pen_cells _ _ _) ⟨_, rfl, _, hc, hl0, _, rfl, _, hc, _, hv, _, rfl, s2⟩)
        · exact s2
      · rintro σ' H2 ⟨cell, rfl, s2⟩
        have h1'' := s2 _ _ h1'
        have h2'' := s2 _ _ h2'
        have b2 : But p H H2 := b1.trans (But.of s2)
        refine seqi fun k hk => ?_
        have go : k [some (V.ref p), some (V.int span), none, some (V.int turn), some (V.int cell), none] H2 := by
          subst hk
          refine seqi fun k hk => ?_
          walk_at "rd"
          refine ⟨by decide, .inr ⟨by decide, by decide⟩, ?_⟩
          subst hk
          refine seqi fun k hk => ?_
          walk_at "rd"
          refine ⟨.inr ⟨by decide, by decide⟩, .inl ⟨by omega, by omega⟩, by decide, ?_⟩
          generalize hm : (_ : Int) % 4294967029 = m
          have m0 : 0 ≤ m := by rw [← hm]; exact Int.emod_nonneg _ (by decide)
          have m1 : m < 4294967296 := by have := Int.emod_lt_of_pos (cell % 4294967087 * 48611 + turn * (turn * 27919 + 10601) + 41) (show (0 : Int) < 4294967029 by decide); omega
          clear hm
          subst hk
          refine seqi fun k hk => ?_
          walk_at "rd"
          refine ⟨hmul _ m0 m1 _, by decide, ?_⟩
          obtain ⟨m2, hm2⟩ : ∃ m2, m * (m + 75013) % 4294966997 = m2 := ⟨_, rfl⟩
          have m3 : 0 ≤ m2 := by rw [← hm2]; exact Int.emod_nonneg _ (by decide)
          have m4 : m2 < 4294967296 := by have := Int.emod_lt_of_pos (m * (m + 75013)) (show (0 : Int) < 4294966997 by decide); omega
          rw [hm2]
          subst hk
          refine seqi fun k hk => ?_
          walk_at "rd"
          refine ⟨hmul _ m3 m4 _, .inl ⟨by decide, by decide⟩, .inl ⟨by decide, by decide⟩, by decide, ?_⟩
          obtain ⟨m5, hm5⟩ : ∃ m5, (m2 * m2 + 30427 * m2 + 19 * turn) % 4294966981 = m5 := ⟨_, rfl⟩
          have m6 : 0 ≤ m5 := by rw [← hm5]; exact Int.emod_nonneg _ (by decide)
          have m7 : m5 < 4294967296 := by have := Int.emod_lt_of_pos (m2 * m2 + 30427 * m2 + 19 * turn) (show (0 : Int) < 4294966981 by decide); omega
          rw [hm5]
          subst hk
          walk_at "rd"
          refine ⟨hmul _ m6 m7 _, by decide, ⟨by decide, by decide⟩, hs0, ?_⟩
          exact q _ _ (Int.emod_nonneg _ (by omega)) (Int.emod_lt_of_pos _ hs0) ⟨cells, turn + 1, left, h1'', h2'', h3, by omega, by omega⟩ b2
        walk_at "rd"
        refine dg_s h1'' (pen_cells _ _ _) ⟨_, rfl, _, .inl (.inl h2''), ite2 (fun ht => ?_) (fun ht => go)⟩
        refine ⟨⟨by decide, by decide, by decide⟩, ite2 (fun hge => ?_) (fun hge => go)⟩
        clear go
        refine seqi fun k2 hk2 => ?_
        walk_at "rd"
        refine ⟨⟨by decide, by decide, by decide⟩, ⟨hs0, hs1⟩, dp_s h1'' (pen_len _ _ _) ?_⟩
        rw [pen_putL]
        subst hk2
        walk_at "rd"
        refine ⟨⟨by decide, by decide, by decide⟩, hs0, ?_⟩
        refine q _ _ (Int.emod_nonneg _ (by omega)) (Int.emod_lt_of_pos _ hs0) ⟨cells, turn + 1, _, upd_same, ?_, h3, by omega, by omega⟩ (b2.trans ⟨fun b o hb n => by rw [upd_ne n]; exact hb, fun _ => by rw [upd_same]; intro z; cases z⟩)
        rw [upd_ne (ne_of h2'' h1'' (by intro z; cases z))]
        exact h2''
abbrev s__law_pick : Stmt := topS 17
theorem sc__law_pick : FnScope ["pen", "options"] ["pen", "options"] (defScope s__law_pick) := ⟨rfl, rfl, rfl, by decide +kernel, rfl, by decide +kernel, by decide +kernel⟩
theorem ok_pick {f : Addr} {fd : FuncData} (F : Fun K "_law_pick" "_law_pick" s__law_pick f fd) (D_law_draw : Dn P w K mg base 1 "_law_draw" ["pen", "span"] spDraw) (m_len : mg "len" = none) : FnOk P w K mg base CX0 2 f fd ["pen", "options"] spPick := by
  refine F.ok sc__law_pick (fun vs H Q E h => ?_) (fun cdv A outer s H vs Q E hr h => ?_)
  · obtain ⟨p, c, o, t, ds, rfl, _⟩ := h
    rfl
  · obtain ⟨p, c, o, t, ds, rfl, hP, ht, ho, h0, hl, q⟩ := h
    obtain ⟨ao, xs, rfl, hao, hxs⟩ := ho.list
    obtain ⟨kvs, hpk⟩ := hP.dict
    refine ⟨_, (pss_one (ps_ret (pe_ix (ix_listK K) (pv 1) (pd D_law_draw (hr.mono (by decide)) (by rfl) (pa_cons (pv 0) (pa_cons (pe_callB (call_lenK K) (by rfl) m_len PySem.boot_len (pa_cons (pv 1) pa_nil)) pa_nil))) (fun _ _ => rfl)))), ?_⟩
    show tRet _ _ [some (.ref p), some (.ref ao)] H
    have lx := hxs.len
    walk_at "rd"
    refine ⟨_, .inl (.inl hao), p, c, _, t, rfl, hP, by omega, by omega, lg_small (by omega), fun r H2 r0 r1 P2 b2 => ?_⟩
    obtain ⟨j, rfl⟩ : ∃ j : Nat, r = j := ⟨r.toNat, by omega⟩
    have hj : j < ds.length := by omega
    obtain ⟨v, hv, hd⟩ := hxs.get (List.getElem?_eq_getElem hj)
    exact ⟨_, _, rfl, .inl (.inl (b2.1 _ _ hao (ne_of hao hpk (by intro z; cases z)))), _, atI_nat (j := j) hv, q _ _ _ (List.getElem_mem hj) (hd.but hpk b2) P2 b2⟩
def spShufN : Sp := fun vs H Q _ => ∃ p c v t ds n, vs = [.ref p, v] ∧ PenOk H p c t ∧ Dt H v (.list ds) ∧ (∀ d ∈ ds, Shp n d) ∧ n ≤ 60 ∧ ds.length ≤ 900 ∧ t ≤ 900000000 ∧
  ∀ (a : Addr) H' es, H a = none → es.Perm ds → PenOk H' p c (t + ds.length) → But p H H' → Dt H' (.ref a) (.list es) → Q (.ref a) H'
abbrev s__law_shuffled : Stmt := topS 18
theorem sc__law_shuffled : FnScope ["pen", "items", "left", "found"] ["pen", "items"] (defScope s__law_shuffled) := ⟨rfl, rfl, rfl, by decide +kernel, rfl, by decide +kernel, by decide +kernel⟩
theorem ok_shuffled {f : Addr} {fd : FuncData} (F : Fun K "_law_shuffled" "_law_shuffled" s__law_shuffled f fd) (D_law_draw : Dn P w K mg base 1 "_law_draw" ["pen", "span"] spDraw) (m_len : mg "len" = none) (m_list : mg "list" = none) : FnOk P w K mg base CX0 2 f fd ["pen", "items"] spShufN := by
  refine F.ok sc__law_shuffled (fun vs H Q E h => ?_) (fun cdv A outer s H vs Q E hr h => ?_)
  · obtain ⟨p, c, v, t, ds, n, rfl, _⟩ := h
    rfl
  · obtain ⟨p, c, v, t, ds, n, rfl, hP, hv, hsh, hn, hl, ht, q⟩ := h
    have hu64 := hr.units
    refine ⟨_, (pss_cons (ps_par (i := 2) (j := 3) rfl sc__law_shuffled.nd rfl rfl (by decide) rfl rfl (pa_cons (pe_callTy (call_listK K) (by rfl) m_list (by decide +kernel) (pa_cons (pv 1) pa_nil)) (pa_cons (pe_lst pa_nil) pa_nil)) rfl)
    (pss_cons (ps_while PassesOwn.never (pt_cmpR (op_neDK K hu64) (pv 2) (pe_lst pa_nil) (nomark _))
      (pss_one (ps_expr (pe_bmK K (by rfl) (pe_bm PySem.F.plainAttrs_list PySem.F.slot_list_append PySem.F.type_list_append mt_append (pv 3) (pa_cons (pe_bmK K (by rfl) (pe_bm PySem.F.plainAttrs_list PySem.F.slot_list_pop PySem.F.type_list_pop mt_popAt (pv 2) (pa_cons (pd D_law_draw (hr.mono (by decide)) (by rfl) (pa_cons (pv 0) (pa_cons (pe_callB (call_lenK K) (by rfl) m_len PySem.boot_len (pa_cons (pv 2) pa_nil)) pa_nil))) pa_nil))) pa_nil))))))
    (pss_one (ps_ret (pv 3))))), ?_⟩
    show tSeq _ _ _ [some (.ref p), some v, none, none] H
    obtain ⟨av, xs, rfl, hav, hxs⟩ := hv.list
    obtain ⟨kvs, hpk⟩ := hP.dict
    refine seqi fun k hk => ?_
    walk_at "rd"
    refine ⟨_, .inl (.inl hav), fun l hl0 => ⟨Nat.zero_le _, fun f1 hf0 => ⟨_, _, ⟨rfl, rfl⟩, ?_⟩⟩⟩
    subst hk
    have hf : H f1 = none := (same_new hl0).free hf0
    have nlf : l ≠ f1 := ne_of_none upd_same hf0
    have npl : l ≠ p := (ne_of_none hpk hl0).symm
    obtain ⟨cxs, hcx⟩ := hP.cells
    have nlc : l ≠ c := (ne_of_none hcx hl0).symm
    have nfc : f1 ≠ c := (ne_of_none hcx hf).symm
    have npf : f1 ≠ p := (ne_of_none hpk hf).symm
    have lx := hxs.len
    refine seqi fun k hk => ?_
    refine ⟨fun m σ H' => ∃ (L F : List V) (dl df : List PyData), σ = [some (.ref p), some (.ref av), some (.ref l), some (.ref f1)] ∧ m = L.length ∧ H' l = some (.lst L) ∧ H' f1 = some (.lst F) ∧ Dts H L dl ∧ Dts H F df ∧ (df ++ dl).Perm ds ∧ PenOk H' p c (t + df.length) ∧ But p H H',
      ⟨xs.length, xs, [], ds, [], rfl, rfl, ?_, ?_, hxs, .nil, List.Perm.refl _, ?_, ?_⟩, ?_⟩
    · rw [upd_ne nlf, upd_same]
    · rw [upd_same]
    · exact hP.same (Same.new (same_new hl0) hf0)
    · exact But.of (Same.new (same_new hl0) hf0)
    · rintro m σ H1 ⟨L, F, dl, df, rfl, rfl, h1, h2, d1, d2, pm, hP1, b1⟩
      have lens : df.length + dl.length = ds.length := by rw [← List.length_append]; exact pm.length_eq
      have ll := d1.len
      walk_at "rd"
      refine ⟨Nat.zero_le _, fun q1 hq1 => ?_⟩
      have hdl : ∀ d ∈ dl, Shp n d := fun d hd => hsh d (pm.mem_iff.mp (List.mem_append_right _ hd))
      have s2 : Same H1 (upd H1 q1 (.lst [])) := same_new hq1
      refine ne_nilD (ds := dl) (.lst (s2 _ _ h1) (((d1.but hpk b1)).same s2)) ((shp_lst hdl).ok (by omega)) upd_same ⟨_, rfl, ?_⟩
      cases dl with
      | nil =>
        have e0 : L = [] := List.length_eq_zero_iff.mp ll
        subst e0
        show k _ _
        subst hk
        walk_at "rd"
        rw [List.append_nil] at pm
        have e2 : df.length = ds.length := pm.length_eq
        rw [e2] at hP1
        exact q f1 _ df hf pm (hP1.same s2) (b1.trans (But.of s2)) (.lst (s2 _ _ h2) ((d2.but hpk b1).same s2))
      | cons d0 dr =>
        show ∃ N, _
        refine ⟨fun σ2 H2 => ∃ (L' F' : List V) (dl' df' : List PyData), σ2 = [some (.ref p), some (.ref av), some (.ref l), some (.ref f1)] ∧ L'.length + 1 = L.length ∧ H2 l = some (.lst L') ∧ H2 f1 = some (.lst F') ∧
          Dts H L' dl' ∧ Dts H F' df' ∧ (df' ++ dl').Perm ds ∧ PenOk H2 p c (t + df'.length) ∧ But p H H2, ?_, .inl ⟨rfl, _, .inl (.inl (s2 _ _ h2))⟩, .inl ⟨rfl, _, .inl (.inl (s2 _ _ h1))⟩, L, .inl (.inl (s2 _ _ h1)), ?_⟩
        · rintro σ2 H2 ⟨L', F', dl', df', e1, e2, e3, e4, e5, e6, e7, e8, e9⟩
          exact ⟨L'.length, by omega, e1, L', rfl, e3, F', e4, dl', e5, df', e6, e7, e8, e9⟩
        · have lpos : 0 < L.length := by rw [ll]; exact Nat.succ_pos _
          have ls : L.length ≤ 900 := by omega
          refine ⟨p, c, _, t + df.length, rfl, hP1.same s2, by omega, by omega, lg_small (by omega), fun r H2 r0 r1 P2 b2 => ?_⟩
          have h1' : H2 l = some (.lst L) := b2.1 _ _ (s2 _ _ h1) npl
          have h2' : H2 f1 = some (.lst F) := b2.1 _ _ (s2 _ _ h2) npf
          obtain ⟨j, rfl⟩ : ∃ j : Nat, r = j := ⟨r.toNat, by omega⟩
          have hj : j < L.length := by omega
          have hix : seqIndex? (j : Int) L.length = some j := by
            unfold seqIndex?
            have h1 : ¬ ((j : Int) < 0) := by omega
            simp only [if_neg h1]
            rw [if_pos (by simp; omega)]
            rfl
          refine ⟨L, _, rfl, h1', by omega, by omega, j, hix, _, List.getElem?_eq_getElem hj, F, ?_, ?_, ?_⟩
          · rw [upd_ne nlf.symm]
            exact h2'
          · rw [d2.len]
            exact small1000 (by omega)
          · have hdj : j < (d0 :: dr).length := by rw [← ll]; exact hj
            obtain ⟨v', hv', hdv⟩ := d1.get (i := j) (List.getElem?_eq_getElem hdj)
            rw [List.getElem?_eq_getElem hj] at hv'
            cases hv'
            refine ⟨L.eraseIdx j, F ++ [L[j]], (d0 :: dr).eraseIdx j, df ++ [(d0 :: dr)[j]], rfl, ?_, ?_, upd_same, d1.erase j, d2.app (.cons hdv .nil), ?_, ?_, ?_⟩
            · rw [List.length_eraseIdx_of_lt hj]
              omega
            · rw [upd_ne nlf, upd_same]
            · rw [List.append_assoc]
              exact ((perm_erase (d0 :: dr) j _ (List.getElem?_eq_getElem hdj)).append_left df).trans pm
            · rw [List.length_append, List.length_singleton, ← Nat.add_assoc]
              exact (P2.mut npl nlc).mut npf nfc
            · exact ((b1.trans (But.of s2)).trans b2).mut hl0 |>.mut hf
def spFew : Sp := fun vs H Q _ => ∃ p c v m t ds, vs = [.ref p, v, .int m] ∧ PenOk H p c t ∧ Dt H v (.list ds) ∧ 0 ≤ m ∧ m ≤ 1000 ∧ ds.length ≤ 900 ∧ t ≤ 900000000 ∧
  ∀ a H' es rest, (es ++ rest).Perm ds → PenOk H' p c (t + ds.length) → But p H H' → Dt H' (.ref a) (.list es) → Q (.ref a) H'
abbrev s__law_few : Stmt := topS 21
theorem sc__law_few : FnScope ["pen", "items", "span", "left", "found", "k"] ["pen", "items", "span"] (defScope s__law_few) := ⟨rfl, rfl, rfl, by decide +kernel, rfl, by decide +kernel, by decide +kernel⟩
theorem ok_few {f : Addr} {fd : FuncData} (F : Fun K "_law_few" "_law_few" s__law_few f fd) (D_law_draw : Dn P w K mg base 1 "_law_draw" ["pen", "span"] spDraw) (m_len : mg "len" = none) (m_list : mg "list" = none) (m_int : mg "int" = none) (m_min : mg "min" = none) (m_range : mg "range" = none) : FnOk P w K mg base CX0 2 f fd ["pen", "items", "span"] spFew := by
  refine F.ok sc__law_few (fun vs H Q E h => ?_) (fun cdv A outer s H vs Q E hr h => ?_)
  · obtain ⟨p, c, v, m, t, ds, rfl, _⟩ := h
    rfl
  · obtain ⟨p, c, v, m, t, ds, rfl, hP, hv, hm0, hm1, hl, ht, q⟩ := h
    refine ⟨_, (pss_cons (ps_par (i := 3) (j := 4) rfl sc__law_few.nd rfl rfl (by decide) rfl rfl (pa_cons (pe_callTy (call_listK K) (by rfl) m_list (by decide +kernel) (pa_cons (pv 1) pa_nil)) (pa_cons (pe_lst pa_nil) pa_nil)) rfl)
    (pss_cons (ps_for PassesOwn.never rfl (pi_range1 rfl m_range (pa_cons (pe_callB (call_min2 rfl) (by rfl) m_min (by decide +kernel) (pa_cons (pe_callTy call_intI (by rfl) m_int (by decide +kernel) (pa_cons (pv 2) pa_nil)) (pa_cons (pe_callB (call_lenK K) (by rfl) m_len PySem.boot_len (pa_cons (pv 3) pa_nil)) pa_nil))) pa_nil)) (pg_name (i := 5) sc__law_few.nd rfl (.inl rfl))
      (pss_one (ps_expr (pe_bmK K (by rfl) (pe_bm PySem.F.plainAttrs_list PySem.F.slot_list_append PySem.F.type_list_append mt_append (pv 4) (pa_cons (pe_bmK K (by rfl) (pe_bm PySem.F.plainAttrs_list PySem.F.slot_list_pop PySem.F.type_list_pop mt_popAt (pv 3) (pa_cons (pd D_law_draw (hr.mono (by decide)) (by rfl) (pa_cons (pv 0) (pa_cons (pe_callB (call_lenK K) (by rfl) m_len PySem.boot_len (pa_cons (pv 3) pa_nil)) pa_nil))) pa_nil))) pa_nil))))))
    (pss_one (ps_ret (pv 4))))), ?_⟩
    show tSeq _ _ _ [some (.ref p), some v, some (.int m), none, none, none] H
    obtain ⟨av, xs, rfl, hav, hxs⟩ := hv.list
    obtain ⟨kvs, hpk⟩ := hP.dict
    have lx := hxs.len
    refine seqi fun k hk => ?_
    walk_at "rd"
    refine ⟨_, .inl (.inl hav), fun l hl0 => ⟨Nat.zero_le _, fun f1 hf0 => ⟨_, _, ⟨rfl, rfl⟩, ?_⟩⟩⟩
    subst hk
    have hf : H f1 = none := (same_new hl0).free hf0
    have nlf : l ≠ f1 := ne_of_none upd_same hf0
    have npl : l ≠ p := (ne_of_none hpk hl0).symm
    obtain ⟨cxs, hcx⟩ := hP.cells
    have nlc : l ≠ c := (ne_of_none hcx hl0).symm
    have nfc : f1 ≠ c := (ne_of_none hcx hf).symm
    have npf : f1 ≠ p := (ne_of_none hpk hf).symm
    have e0 : Same H (upd (upd H l (.lst xs)) f1 (.lst [])) := Same.new (same_new hl0) hf0
    have g1 : (upd (upd H l (.lst xs)) f1 (.lst [])) l = some (.lst xs) := by rw [upd_ne nlf, upd_same]
    have g2 : (upd (upd H l (.lst xs)) f1 (.lst [])) f1 = some (.lst []) := upd_same
    revert e0 g1 g2
    generalize (upd (upd H l (.lst xs)) f1 (.lst [])) = H0
    intro e0 g1 g2
    refine seqi fun k hk => ?_
    walk_at "rd"
    refine ⟨_, .inl (.inl g1), _, _, ⟨rfl, rfl⟩, ?_⟩
    generalize hn : (if ((xs.length : Nat) : Int) < m then ((xs.length : Nat) : Int) else m) = n
    have hn0 : 0 ≤ n ∧ n ≤ xs.length := by rw [← hn]; split <;> omega
    refine ⟨by omega, by omega, ?_⟩
    obtain ⟨Pv, hPv⟩ : ∃ Pv : Nat → L2.St → Hp → Prop, Pv = fun i σ' H' => ∃ (L F : List V) (dl df : List PyData) (y : Option V), σ' = [some (.ref p), some (.ref av), some (.int m), some (.ref l), some (.ref f1), y] ∧ df.length = i ∧ H' l = some (.lst L) ∧ H' f1 = some (.lst F) ∧
      Dts H L dl ∧ Dts H F df ∧ (df ++ dl).Perm ds ∧ PenOk H' p c (t + i) ∧ But p H H' := ⟨_, rfl⟩
    refine forg_by (jseq_rng 0 n.toNat) Pv (by rw [hPv]; exact ⟨xs, [], ds, [], none, rfl, rfl, g1, g2, hxs, .nil, List.Perm.refl _, hP.same e0, But.of e0⟩) (fun i σ' H' _ h => trivial) (fun i x σ' H1 hx h => ?_) (fun σ' H1 h => ?_) <;> rw [hPv] at h
    · obtain ⟨L, F, dl, df, y, rfl, hdf, h1, h2, d1, d2, pm, hP1, b1⟩ := h
      have hi : i < n.toNat := by
        have := (List.getElem?_eq_some_iff.mp hx).1
        rw [rngV_len] at this
        exact this
      have lens : df.length + dl.length = ds.length := by rw [← List.length_append]; exact pm.length_eq
      have ll := d1.len
      have lf := d2.len
      walk_at "rd"
      refine ⟨.inl ⟨rfl, _, .inl (.inl h2)⟩, .inl ⟨rfl, _, .inl (.inl h1)⟩, L, .inl (.inl h1), ?_⟩
      refine ⟨p, c, _, t + i, rfl, hP1, by omega, by omega, lg_small (by omega), fun r H2 r0 r1 P2 b2 => ?_⟩
      have h1' : H2 l = some (.lst L) := b2.1 _ _ h1 npl
      have h2' : H2 f1 = some (.lst F) := b2.1 _ _ h2 npf
      obtain ⟨j, rfl⟩ : ∃ j : Nat, r = j := ⟨r.toNat, by omega⟩
      have hj : j < L.length := by omega
      have hix : seqIndex? (j : Int) L.length = some j := by
        unfold seqIndex?
        have h1 : ¬ ((j : Int) < 0) := by omega
        simp only [if_neg h1]
        rw [if_pos (by simp; omega)]
        rfl
      have hdj : j < dl.length := by omega
      obtain ⟨v', hv', hdv⟩ := d1.get (i := j) (List.getElem?_eq_getElem hdj)
      refine ⟨L, _, rfl, h1', by omega, by omega, j, hix, _, hv', F, ?_, small1000 (by omega), ?_⟩
      · rw [upd_ne nlf.symm]
        exact h2'
      · rw [hPv]
        refine ⟨L.eraseIdx j, F ++ [v'], dl.eraseIdx j, df ++ [dl[j]], _, rfl, by rw [List.length_append, hdf]; rfl, ?_, upd_same, d1.erase j, d2.app (.cons hdv .nil), ?_, ?_, ?_⟩
        · rw [upd_ne nlf, upd_same]
        · rw [List.append_assoc]
          exact ((perm_erase dl j _ (List.getElem?_eq_getElem hdj)).append_left df).trans pm
        · exact (P2.mut npl nlc).mut npf nfc
        · exact ((b1.trans b2).mut hl0).mut hf
    · obtain ⟨L, F, dl, df, y, rfl, hdf, h1, h2, d1, d2, pm, hP1, b1⟩ := h
      have lens : df.length + dl.length = ds.length := by rw [← List.length_append]; exact pm.length_eq
      rw [rngV_len] at hdf hP1
      subst hk
      dsimp only
      walk_at "rd"
      exact q f1 H1 df dl pm (hP1.mono (by omega)) b1 (.lst h2 (d2.but hpk b1))
abbrev s__law_nine : Stmt := topS 19
theorem sc__law_nine : FnScope [] [] (defScope s__law_nine) := ⟨rfl, rfl, rfl, by decide +kernel, rfl, by decide +kernel, by decide +kernel⟩
theorem ok_nine {f : Addr} {fd : FuncData} (F : Fun K "_law_nine" "_law_nine" s__law_nine f fd) : FnOk P w K mg base CX0 1 f fd [] spNine := by
  refine F.ok sc__law_nine (fun vs H Q E h => ?_) (fun cdv A outer s H vs Q E hr h => ?_)
  · obtain ⟨rfl, _⟩ := h
    rfl
  · obtain ⟨rfl, q⟩ := h
    refine ⟨_, (pss_one (ps_ret (pe_lst (pa_cons pe_str (pa_cons pe_str (pa_cons pe_str (pa_cons pe_str (pa_cons pe_str (pa_cons pe_str (pa_cons pe_str (pa_cons pe_str (pa_cons pe_str pa_nil)))))))))))), ?_⟩
    refine (d_lst (ds := R9.map fun i => PyData.str (rn i)) ?_ (by decide)).go q
    repeat (first | exact d_nil | refine d_cons d_str ?_)
abbrev s__law_thirteen : Stmt := topS 20
theorem sc__law_thirteen : FnScope ["high", "found"] [] (defScope s__law_thirteen) := ⟨rfl, rfl, rfl, by decide +kernel, rfl, by decide +kernel, by decide +kernel⟩
theorem ok_thirteen {f : Addr} {fd : FuncData} (F : Fun K "_law_thirteen" "_law_thirteen" s__law_thirteen f fd) (D_law_nine : Dn P w K mg base 1 "_law_nine" [] spNine) : FnOk P w K mg base CX0 2 f fd [] spThir := by
  refine F.ok sc__law_thirteen (fun vs H Q E h => ?_) (fun cdv A outer s H vs Q E hr h => ?_)
  · obtain ⟨rfl, _⟩ := h
    rfl
  · obtain ⟨rfl, q⟩ := h
    refine ⟨_, (pss_cons (ps_set (i := 0) sc__law_thirteen.nd rfl (.inl rfl) (pe_lst (pa_cons pe_str (pa_cons pe_str pa_nil))))
    (pss_cons (ps_set (i := 1) sc__law_thirteen.nd rfl (.inl rfl) (pe_lst (pa_cons (pe_tup (pa_cons pe_str (pa_cons (pe_lst pa_nil) pa_nil))) (pa_cons (pe_tup (pa_cons pe_str (pa_cons (pe_lst (pa_cons pe_str pa_nil)) pa_nil))) (pa_cons (pe_tup (pa_cons pe_str (pa_cons (pe_lst (pa_cons pe_str pa_nil)) pa_nil))) (pa_cons (pe_tup (pa_cons pe_str (pa_cons (pe_lst (pa_cons pe_str (pa_cons pe_str pa_nil))) pa_nil))) pa_nil))))))
    (pss_cons (ps_set (i := 1) sc__law_thirteen.nd rfl (.inl rfl) (pe_op op_cat (pv 1) (pe_lst (pa_cons (pe_tup (pa_cons pe_str (pa_cons (pe_lst (pa_cons pe_str (pa_cons pe_str (pa_cons pe_str pa_nil)))) pa_nil))) (pa_cons (pe_tup (pa_cons pe_str (pa_cons (pv 0) pa_nil))) (pa_cons (pe_tup (pa_cons pe_str (pa_cons (pe_op op_cat (pv 0) (pe_lst (pa_cons pe_str pa_nil))) pa_nil))) pa_nil))))))
    (pss_cons (ps_set (i := 1) sc__law_thirteen.nd rfl (.inl rfl) (pe_op op_cat (pv 1) (pe_lst (pa_cons (pe_tup (pa_cons pe_str (pa_cons (pe_op op_cat (pv 0) (pe_lst (pa_cons pe_str pa_nil))) pa_nil))) (pa_cons (pe_tup (pa_cons pe_str (pa_cons (pe_lst (pa_cons pe_str (pa_cons pe_str (pa_cons pe_str (pa_cons pe_str (pa_cons pe_str pa_nil)))))) pa_nil))) pa_nil)))))
    (pss_cons (ps_set (i := 1) sc__law_thirteen.nd rfl (.inl rfl) (pe_op op_cat (pv 1) (pe_lst (pa_cons (pe_tup (pa_cons pe_str (pa_cons (pe_op op_cat (pv 0) (pe_lst (pa_cons pe_str pa_nil))) pa_nil))) (pa_cons (pe_tup (pa_cons pe_str (pa_cons (pe_op op_cat (pv 0) (pe_lst (pa_cons pe_str (pa_cons pe_str (pa_cons pe_str pa_nil))))) pa_nil))) pa_nil)))))
    (pss_one (ps_ret (pe_op op_cat (pv 1) (pe_lst (pa_cons (pe_tup (pa_cons pe_str (pa_cons (pe_op op_cat (pv 0) (pe_lst (pa_cons pe_str (pa_cons pe_str (pa_cons pe_str pa_nil))))) pa_nil))) (pa_cons (pe_tup (pa_cons pe_str (pa_cons (pd0 D_law_nine (hr.mono (by decide)) (by rfl)) pa_nil))) pa_nil))))))))))), ?_⟩
    have hc : ∀ {σ : L2.St} {H : Hp}, EvD (tCall spNine [] E0 tNil) σ H (ruD R9) := d_call d_nil fun vs H1 e1 hvs Q q => by
      cases hvs
      exact ⟨rfl, fun v H' e h => q v H' e h⟩
    refine q_asgD (d := ruD [0, 2]) ?_ fun v0 H1 e1 h0 => ?_
    · refine d_lst (ds := [.str (rn 0), .str (rn 2)]) ?_ (by decide)
      repeat (first | exact d_nil | refine d_cons d_str ?_)
    refine q_asgD (d := .list ([0, 1, 2, 3].map kiD)) ?_ fun v1 H2 e2 h1 => ?_
    · refine d_lst (ds := [0, 1, 2, 3].map kiD) ?_ (by decide)
      repeat' (first | exact d_nil | exact d_str | exact hc | exact d_var rfl h0 | refine d_cons ?_ ?_ | refine d_tup (ds := [_, _]) ?_ (show (2 : Nat) ≤ 1000 by decide) | refine d_cat (ds := List.map _ [0, 2]) (d_var rfl h0) ?_ (by decide) | refine d_lst ?_ (by decide))
    have h0 := h0.same e2
    refine q_asgD (d := .list ([0, 1, 2, 3, 4, 5, 6].map kiD)) ?_ fun v2 H3 e3 h2 => ?_
    · refine d_cat (ds := [0, 1, 2, 3].map kiD) (es := [4, 5, 6].map kiD) (d_var rfl h1) (d_lst ?_ (by decide)) (by decide)
      repeat' (first | exact d_nil | exact d_str | exact hc | exact d_var rfl h0 | refine d_cons ?_ ?_ | refine d_tup (ds := [_, _]) ?_ (show (2 : Nat) ≤ 1000 by decide) | refine d_cat (ds := List.map _ [0, 2]) (d_var rfl h0) ?_ (by decide) | refine d_lst ?_ (by decide))
    have h0 := h0.same e3
    refine q_asgD (d := .list ([0, 1, 2, 3, 4, 5, 6, 7, 8].map kiD)) ?_ fun v3 H4 e4 h3 => ?_
    · refine d_cat (ds := [0, 1, 2, 3, 4, 5, 6].map kiD) (es := [7, 8].map kiD) (d_var rfl h2) (d_lst ?_ (by decide)) (by decide)
      repeat' (first | exact d_nil | exact d_str | exact hc | exact d_var rfl h0 | refine d_cons ?_ ?_ | refine d_tup (ds := [_, _]) ?_ (show (2 : Nat) ≤ 1000 by decide) | refine d_cat (ds := List.map _ [0, 2]) (d_var rfl h0) ?_ (by decide) | refine d_lst ?_ (by decide))
    have h0 := h0.same e4
    refine q_asgD (d := .list ([0, 1, 2, 3, 4, 5, 6, 7, 8, 9, 10].map kiD)) ?_ fun v4 H5 e5 h4 => ?_
    · refine d_cat (ds := [0, 1, 2, 3, 4, 5, 6, 7, 8].map kiD) (es := [9, 10].map kiD) (d_var rfl h3) (d_lst ?_ (by decide)) (by decide)
      repeat' (first | exact d_nil | exact d_str | exact hc | exact d_var rfl h0 | refine d_cons ?_ ?_ | refine d_tup (ds := [_, _]) ?_ (show (2 : Nat) ≤ 1000 by decide) | refine d_cat (ds := List.map _ [0, 2]) (d_var rfl h0) ?_ (by decide) | refine d_lst ?_ (by decide))
    have h0 := h0.same e5
    refine s_retD (d := thD) ?_ fun v H6 e6 h => q v H6 (((((e1.trans e2).trans e3).trans e4).trans e5).trans e6) h
    refine d_cat (ds := [0, 1, 2, 3, 4, 5, 6, 7, 8, 9, 10].map kiD) (es := [11, 12].map kiD) (d_var rfl h4) (d_lst ?_ (by decide)) (by decide)
    repeat' (first | exact d_nil | exact d_str | exact hc | exact d_var rfl h0 | refine d_cons ?_ ?_ | refine d_tup (ds := [_, _]) ?_ (show (2 : Nat) ≤ 1000 by decide) | refine d_cat (ds := List.map _ [0, 2]) (d_var rfl h0) ?_ (by decide) | refine d_lst ?_ (by decide))
abbrev s__has_all : Stmt := topS 11
theorem sc__has_all : FnScope ["rules", "names", "name"] ["rules", "names"] (defScope s__has_all) := ⟨rfl, rfl, rfl, by decide +kernel, rfl, by decide +kernel, by decide +kernel⟩
theorem ok_has_all {f : Addr} {fd : FuncData} (F : Fun K "_has_all" "_has_all" s__has_all f fd) (X : TxR K w mg aR aD C T) : FnOk P w K mg base CX0 1 f fd ["rules", "names"] (spHas K) := by
  refine F.ok sc__has_all (fun vs H Q E h => ?_) (fun cdv A outer s H vs Q E hr h => ?_)
  · obtain ⟨a, b, k, ns, rfl, _⟩ := h
    rfl
  · obtain ⟨a, b, k, ns, rfl, hk, hns, hl, ha, hb, q⟩ := h
    have m_all := X.m_all
    refine ⟨_, (pss_one (ps_ret (pe_callB (call_allK K rfl) (by rfl) m_all (by decide +kernel) (pa_cons (pe_lc (own := [("name", 2)]) rfl sc__has_all.nd (pi_tupK K (pv 1)) (blkOk_by (by kernel_rfl)) (fun _ _ _ _ _ => (pg_name (i := 2) sc__has_all.nd rfl (.inl rfl))) (fun _ _ _ _ _ => pts_nil) (fun _ _ _ _ _ => (pe_cmpR (op_inK K) (pv 2) (pv 0) rfl))) pa_nil)))), ?_⟩
    show tRet _ _ [some (.ref a), some (.ref b), none] H
    walk_at "rd"
    refine ⟨⟨_, hb⟩, ?_⟩
    refine lcg_old (jseq_tup K _ _) hb ns (fun n => .str (rn n)) (dts_rS ns) (by omega) (fun _ => true) (fun n => .bool (decide (n ∈ KR k))) (fun z n hn hz H3 e3 S1 S0 s1 s0 => ?_) (fun D3 H3 hD3 e3 hD3d => ?_)
    · obtain rfl := hz.txt
      walk_at "rd"
      refine ⟨_, .inr (same_tup e3 ha), rfl, flat_strs _, ?_⟩
      rw [inV_strs, decide_eq_decide.mpr (iff_of_eq (mem_rS (hns n hn) (KR_in k hk)))]
      exact s1 rfl _ _ (Same.refl _) (.bl _)
    · obtain ⟨a3, xs3, e, ha3, hx3⟩ := hD3d.list
      cases e
      have e4 : ((ns.filter fun _ => true).map fun n => PyData.bool (decide (n ∈ KR k))) = (ns.map fun n => decide (n ∈ KR k)).map PyData.bool := by
        rw [List.filter_eq_self.mpr (fun _ _ => rfl), List.map_map]
        rfl
      rw [e4] at hx3
      refine ⟨_, rfl, _, .inl (.inl (by rw [ha3, dts_bools hx3])), ?_⟩
      rw [List.all_map]
      exact q _ e3
abbrev s__weakest_kind : Stmt := topS 12
theorem sc__weakest_kind : FnScope ["names", "fitting", "kind"] ["names"] (defScope s__weakest_kind) := ⟨rfl, rfl, rfl, by decide +kernel, rfl, by decide +kernel, by decide +kernel⟩
theorem ok_weakest {f : Addr} {fd : FuncData} (F : Fun K "_weakest_kind" "_weakest_kind" s__weakest_kind f fd) (X : TxR K w mg aR aD C T) (D_has_all : Dn P w K mg base 1 "_has_all" ["rules", "names"] (spHas K)) : FnOk P w K mg base CX0 2 f fd ["names"] (spWeak K) := by
  refine F.ok sc__weakest_kind (fun vs H Q E h => ?_) (fun cdv A outer s H vs Q E hr h => ?_)
  · obtain ⟨b, ns, rfl, _⟩ := h
    rfl
  · obtain ⟨b, ns, rfl, hns, hl, hb, q⟩ := h
    have m__RULES_OF := X.mD
    refine ⟨_, (pss_cons (ps_setLc (i := 1) (own := [("kind", 2)]) rfl sc__weakest_kind.nd rfl rfl (sw_true rfl rfl rfl (by decide +kernel)) (pi_kkK K (pe_glob rfl m__RULES_OF (v := .ref aD) rfl)) (blkOk_by (by kernel_rfl)) (fun _ _ _ _ _ => (pg_name (i := 2) sc__weakest_kind.nd rfl (.inl rfl))) (fun _ _ _ _ _ => pts_one (pt_val (pd D_has_all (hr.mono (by decide)) (by rfl) (pa_cons (pe_ix (ix_kdK K w) (pe_glob rfl m__RULES_OF (v := .ref aD) rfl) (pv 2) (fun _ _ => rfl)) (pa_cons (pv 0) pa_nil))))) (fun _ _ _ _ _ => (pv 2)))
    (pss_one (ps_ret (pe_ix (ix_listK K) (pv 1) pe_int (fun _ _ => rfl))))), ?_⟩
    show tSeq _ _ _ [some (.ref b), none, none] H
    refine seqi fun k0 hk0 => ?_
    walk_at "rd"
    refine ⟨_, X.kk, ?_⟩
    have ek : kS.map V.str = (K13.map fun k => V.str (kn k)) := rfl
    have dk : Dts H (kS.map V.str) (K13.map fun k => PyData.str (kn k)) := dts_strs kS
    refine lcg_old (jseq_kk kS) trivial K13 (fun k => .str (kn k)) dk (by decide) (fun k => hasB k ns) (fun k => .str (kn k)) (fun z k hk hz H3 e3 S1 S0 s1 s0 => ?_) (fun D3 H3 hD3 e3 hD3d => ?_)
    · obtain rfl := hz.txt
      walk_at "rd"
      refine ⟨_, X.dI k hk, T k, b, k, ns, rfl, hk, hns, hl, X.sT k hk _, same_tup e3 hb, fun H4 e4 => ⟨_, rfl, ?_⟩⟩
      exact ite2 (fun h => s1 h _ _ e4 (.str _)) (fun h => s0 (Bool.eq_false_iff.mpr h) _ e4)
    · subst hk0
      walk_at "rd"
      obtain ⟨a3, xs3, e, ha3, hx3⟩ := hD3d.list
      cases e
      obtain ⟨v0, hv0, hd0⟩ := hx3.get (i := 0) (d := .str (kn (weak ns))) (by rw [List.getElem?_map, (weak_head hns).1]; rfl)
      obtain rfl := hd0.txt
      exact ⟨_, .inl (.inl ha3), _, atI_nat (j := 0) hv0, q _ e3⟩
abbrev s_Rules_listed : Stmt := inClass (topS 13) 3
theorem sc_Rules_listed : FnScope ["self"] ["self"] (defScope s_Rules_listed) := ⟨rfl, rfl, rfl, by decide +kernel, rfl, by decide +kernel, by decide +kernel⟩
theorem ok_listed {f : Addr} {fd : FuncData} (F : Fun K "listed" "Rules.listed" s_Rules_listed f fd) (X : TxR K w mg aR aD C T) : FnOk P w K mg base CX0 1 f fd ["self"] (spListed C) := by
  refine F.ok sc_Rules_listed (fun vs H Q E h => ?_) (fun cdv A outer s H vs Q E hr h => ?_)
  · obtain ⟨p, s, rfl, _⟩ := h
    rfl
  · obtain ⟨p, s, rfl, ⟨dx, t, h1, h2⟩, q⟩ := h
    have m_list := X.m_list
    refine ⟨_, (pss_one (ps_ret (pe_callTy (call_listTK K) (by rfl) m_list (by decide +kernel) (pa_cons (pe_fldK K (pv 0) rfl) pa_nil)))), ?_⟩
    show tRet _ _ [some (.ref p)] H
    walk_at "rd"
    refine ⟨C, dx, _, h1, X.cl, X.nN, _, rFl_names _ _, t, rfl, _, .inl (.inl h2), fun l hl => q _ _ (same_new hl) ?_⟩
    rw [ruD_eq]
    exact .lst upd_same (dts_strs _)
abbrev s_Rules___eq__ : Stmt := inClass (topS 13) 13
theorem sc_Rules___eq__ : FnScope ["self", "other"] ["self", "other"] (defScope s_Rules___eq__) := ⟨rfl, rfl, rfl, by decide +kernel, rfl, by decide +kernel, by decide +kernel⟩
theorem ok_eq {f : Addr} {fd : FuncData} (F : Fun K "__eq__" "Rules.__eq__" s_Rules___eq__ f fd) (X : TxR K w mg aR aD C T) (IC : C8.InsC K C) : FnOk P w K mg base CX0 1 f fd ["self", "other"] (spEq C) := by
  refine F.ok sc_Rules___eq__ (fun vs H Q E h => ?_) (fun cdv A outer s H vs Q E hr h => ?_)
  · obtain ⟨p, s, p', s', rfl, _⟩ := h
    rfl
  · obtain ⟨p, s, p', s', rfl, ⟨dx, t, h1, h2⟩, ⟨dx', t', h1', h2'⟩, hs, hs', q⟩ := h
    have hu64 := hr.units
    have m_Rules := X.mC
    have m_isinstance := X.m_isi
    refine ⟨_, (pss_one (ps_ret (pe_and (pe_callB (C8.call_isC IC) (by rfl) m_isinstance (by decide +kernel) (pa_cons (pv 1) (pa_cons (pe_glob rfl m_Rules (v := .ref C) rfl) pa_nil))) (pe_one (pe_cmpR (op_eqDK K hu64) (pe_fldK K (pv 0) rfl) (pe_fldK K (pv 1) rfl) (nomark _)))))), ?_⟩
    show tRet _ _ [some (.ref p), some (.ref p')] H
    walk_at "rd"
    refine ⟨dx', _, h1', C, dx, _, h1, X.cl, X.nN, _, rFl_names _ _, C, dx', _, h1', X.cl, X.nN, _, rFl_names _ _, ?_⟩
    have sh : ∀ l : List Nat, (∀ n ∈ l, n ∈ R9) → Shp 1 (.tuple ((rS l).map PyData.str)) := fun l hl => shp_tup fun d hd => by
      obtain ⟨z, hz, rfl⟩ := List.mem_map.mp hd
      obtain ⟨n, hn, rfl⟩ := List.mem_map.mp hz
      exact shp_rn n (hl n hn)
    refine ⟨.tuple ((rS s).map PyData.str), .tuple ((rS s').map PyData.str), Dt.dp (.tup h2 (dts_strs _)), Dt.dp (.tup h2' (dts_strs _)), (sh s hs).ok (by decide), (sh s' hs').ok (by decide), ?_⟩
    have e : PyData.eqv (.tuple ((rS s).map PyData.str)) (.tuple ((rS s').map PyData.str)) = decide (s = s') := by
      show PyData.eqvAll _ _ = _
      rw [eqv_strs, decide_eq_decide.mpr (iff_of_eq (rS_inj hs hs'))]
    rw [e]
    exact q _ (Same.refl _)
end
end Fp

namespace Fp
open PySem PySem.Spec PyProof.Rows L2 ClX
local macro_rules | `(tactic| walk_at "rd") => `(tactic| simp only [tCMeth, tMakeL, tOst, rOwnLen, rOwnBool, rBoolT, rListKK, cxK, cxKn, tRet, tRetN, rIntI, rIntB, rLenL, rListL, rListT, rAbs, tDisp, tPairs, tC, tCB, tCons, tNil, tSl, tVar, tNoPart, tPart, rSlL, tOp, tAsg, gName, tIfS, tDrop, tTest, tAnd, tOr, Evl.tCut, tNot, tB, rI0, rI, rIxL, rIxT, rIxD, tDGet, sDPut, tLst, tTup, tBM, tBM0, tPar, rAppend, rPopAt, rPop, rExtend, rTupL, tCall, tNext, rAll, rOwnIn, rOwn2, rCat, lc_iL, lc_iT, lc_iK, lc_iR, lc_iE, fr_iL, fr_iT, fr_iR, tYes, rIn, rEq, rNe, gTup, gCons, gNil, wipe, tMeth, tFld, sFld, tMake, tProp, tIf, tAndV, tOrV, tNotV, tTru, rIsi, rSum, tRevL, rU, tUn, rIxS, iEnum, if_true, if_false, Bool.false_eq_true, List.map_cons, List.map_nil, List.nil_append, List.append_nil, List.cons_append, List.getElem?_cons_zero, List.getElem?_cons_succ, Option.some.injEq, exists_and_left, exists_eq_left', exists_eq_left, List.cons.injEq, and_true, true_and, V.ref.injEq, V.int.injEq, V.str.injEq, V.bl.injEq, List.set_cons_zero, List.set_cons_succ])
theorem FnOk.or {P : Program} {w : World} {K : PySem.W.Frag} {mg : Str → Option Value} {base : Heap} {CX : CXT} {k : Nat} {f : Addr} {fd : FuncData} {ps : List Str} {sp sp' : Sp} (F : FnOk P w K mg base CX k f fd ps sp) (G : FnOk P w K mg base CX k f fd ps sp') :
    FnOk P w K mg base CX k f fd ps (fun vs H Q E => sp vs H Q E ∨ sp' vs H Q E) :=
  ⟨fun vs H Q E h => h.elim (F.len vs H Q E) (G.len vs H Q E), fun A o s H a us vs Q E hr e b r h => h.elim (F.run A o s H a us vs Q E hr e b r) (G.run A o s H a us vs Q E hr e b r)⟩
def oddK : List Str := ["", "tree", "Trees", "trees ", "grouping", "keep", "none", "ones", "rules"]
section
variable {K : PySem.W.Frag} {P : Program} {w : World} {base : Heap} {mg : Str → Option Value} {aR aD C FE CR CK : Addr} {T : Nat → Addr}
abbrev s_NoRule___init__ : Stmt := inClass (topS 3) 0
theorem sc_NoRule___init__ : FnScope ["self", "name"] ["self", "name"] (defScope s_NoRule___init__) := ⟨rfl, rfl, rfl, by decide +kernel, rfl, by decide +kernel, by decide +kernel⟩
theorem ok_NoRule {f : Addr} {fd : FuncData} (F : Fun K "__init__" "NoRule.__init__" s_NoRule___init__ f fd) (e : EC K FE C) (nf : PySem.W.findIn K (.ref C) "name" = some none) : FnOk P w K mg base CX0 1 f fd ["self", "name"] (spIN C "name") := by
  refine F.ok sc_NoRule___init__ (fun vs H Q E h => ?_) (fun cdv A outer s H vs Q E hr h => ?_)
  · obtain ⟨a, v, rfl, _⟩ := h
    rfl
  · obtain ⟨a, v, rfl, ha, q⟩ := h
    exact ⟨_, (pss_one (ps_ostK (K := K) (pv 0) (pv 1) rfl)), iniN e nf ha q⟩
abbrev s_NoKind___init__ : Stmt := inClass (topS 4) 0
theorem sc_NoKind___init__ : FnScope ["self", "name"] ["self", "name"] (defScope s_NoKind___init__) := ⟨rfl, rfl, rfl, by decide +kernel, rfl, by decide +kernel, by decide +kernel⟩
theorem ok_NoKind {f : Addr} {fd : FuncData} (F : Fun K "__init__" "NoKind.__init__" s_NoKind___init__ f fd) (e : EC K FE C) (nf : PySem.W.findIn K (.ref C) "name" = some none) : FnOk P w K mg base CX0 1 f fd ["self", "name"] (spIN C "name") := by
  refine F.ok sc_NoKind___init__ (fun vs H Q E h => ?_) (fun cdv A outer s H vs Q E hr h => ?_)
  · obtain ⟨a, v, rfl, _⟩ := h
    rfl
  · obtain ⟨a, v, rfl, ha, q⟩ := h
    exact ⟨_, (pss_one (ps_ostK (K := K) (pv 0) (pv 1) rfl)), iniN e nf ha q⟩

def spAllR : Sp := fun vs H Q _ => vs = [] ∧ ∀ (a : Addr) H', H a = none → Same H H' → Dt H' (.ref a) (ruD R9) → Q (.ref a) H'
abbrev s_all_rules : Stmt := topS 8
theorem sc_all_rules : FnScope [] [] (defScope s_all_rules) := ⟨rfl, rfl, rfl, by decide +kernel, rfl, by decide +kernel, by decide +kernel⟩
theorem ok_all_rules {f : Addr} {fd : FuncData} (F : Fun K "all_rules" "all_rules" s_all_rules f fd) (X : TxR K w mg aR aD C T) : FnOk P w K mg base CX0 1 f fd [] spAllR := by
  refine F.ok sc_all_rules (fun vs H Q E h => ?_) (fun cdv A outer s H vs Q E hr h => ?_)
  · obtain ⟨rfl, _⟩ := h
    rfl
  · obtain ⟨rfl, q⟩ := h
    have m__RULES := X.mR
    have m_list := X.m_list
    refine ⟨_, (pss_one (ps_ret (pe_callTy (call_listTK K) (by rfl) m_list (by decide +kernel) (pa_cons (pe_glob rfl m__RULES (v := .ref aR) rfl) pa_nil)))), ?_⟩
    show tRet _ _ [] H
    walk_at "rd"
    refine ⟨_, X.sR H, fun l hl => q _ _ hl (same_new hl) ?_⟩
    rw [ruD_eq]
    exact .lst upd_same (dts_strs _)
def kdsD : PyData := .list (kS.map PyData.str)
def spAllK : Sp := fun vs H Q _ => vs = [] ∧ ∀ (a : Addr) H', H a = none → Same H H' → Dt H' (.ref a) kdsD → Q (.ref a) H'
/-- a new list of its rules -/
def spListedN (C : Addr) : Sp := fun vs H Q _ => ∃ p s, vs = [.ref p] ∧ RuAt H C p s ∧ ∀ (a : Addr) H', H a = none → Same H H' → Dt H' (.ref a) (ruD s) → Q (.ref a) H'
theorem ok_listedN {f : Addr} {fd : FuncData} (F : Fun K "listed" "Rules.listed" s_Rules_listed f fd) (X : TxR K w mg aR aD C T) : FnOk P w K mg base CX0 1 f fd ["self"] (spListedN C) := by
  refine F.ok sc_Rules_listed (fun vs H Q E h => ?_) (fun cdv A outer s H vs Q E hr h => ?_)
  · obtain ⟨p, s, rfl, _⟩ := h
    rfl
  · obtain ⟨p, s, rfl, ⟨dx, t, h1, h2⟩, q⟩ := h
    have m_list := X.m_list
    refine ⟨_, (pss_one (ps_ret (pe_callTy (call_listTK K) (by rfl) m_list (by decide +kernel) (pa_cons (pe_fldK K (pv 0) rfl) pa_nil)))), ?_⟩
    show tRet _ _ [some (.ref p)] H
    walk_at "rd"
    refine ⟨C, dx, _, h1, X.cl, X.nN, _, rFl_names _ _, t, rfl, _, .inl (.inl h2), fun l hl => q _ _ hl (same_new hl) ?_⟩
    rw [ruD_eq]
    exact .lst upd_same (dts_strs _)
abbrev s_all_kinds : Stmt := topS 9
theorem sc_all_kinds : FnScope [] [] (defScope s_all_kinds) := ⟨rfl, rfl, rfl, by decide +kernel, rfl, by decide +kernel, by decide +kernel⟩
theorem ok_all_kinds {f : Addr} {fd : FuncData} (F : Fun K "all_kinds" "all_kinds" s_all_kinds f fd) (X : TxR K w mg aR aD C T) : FnOk P w K mg base CX0 1 f fd [] spAllK := by
  refine F.ok sc_all_kinds (fun vs H Q E h => ?_) (fun cdv A outer s H vs Q E hr h => ?_)
  · obtain ⟨rfl, _⟩ := h
    rfl
  · obtain ⟨rfl, q⟩ := h
    have m__RULES_OF := X.mD
    have m_list := X.m_list
    refine ⟨_, (pss_one (ps_ret (pe_callTy (call_listKK (K := K) rfl) (by rfl) m_list (by decide +kernel) (pa_cons (pe_glob rfl m__RULES_OF (v := .ref aD) rfl) pa_nil)))), ?_⟩
    show tRet _ _ [] H
    walk_at "rd"
    exact ⟨_, X.kk, (by decide : 13 ≤ 1000), fun l hl => q _ _ hl (same_new hl) (.lst upd_same (dts_strs _))⟩
/-- a kind, or one of the odd texts -/
def spRulesOfE (CK : Addr) : Sp := fun vs H Q E => ∃ z : Str, vs = [.str z] ∧ ((∃ k ∈ K13, z = kn k ∧ ∀ (a : Addr) H', H a = none → Same H H' → Dt H' (.ref a) (ruD (KR k)) → Q (.ref a) H') ∨
  (z ∈ oddK ∧ ∀ d H', H d = none → Same H H' → H' d = some (.xd [("name", .str z)]) → E (.ref CK) (some d) H'))
abbrev s_rules_of : Stmt := topS 10
theorem sc_rules_of : FnScope ["kind"] ["kind"] (defScope s_rules_of) := ⟨rfl, rfl, rfl, by decide +kernel, rfl, by decide +kernel, by decide +kernel⟩
theorem ok_rules_ofE {f : Addr} {fd : FuncData} (F : Fun K "rules_of" "rules_of" s_rules_of f fd) (X : TxR K w mg aR aD C T) (hodd : ∀ z ∈ oddK, PySem.W.nsIn K aD z = some none) (m_NoKind : mg "NoKind" = some (.ref CK)) (M : Xe P w K mg base CK "name") :
    FnOk P w K mg base (L2.CX P w) 3 f fd ["kind"] (spRulesOfE CK) := by
  refine F.okX sc_rules_of (fun vs H Q E h => ?_) (fun cdv A outer s H vs Q E hr h => ?_)
  · obtain ⟨z, rfl, _⟩ := h
    rfl
  · obtain ⟨z, rfl, q⟩ := h
    obtain ⟨es, n, D⟩ := X.dD
    have m__RULES_OF := X.mD
    have m_list := X.m_list
    refine ⟨_, (pss_cons (ps_if (pt_cmpR (op_notIn_kd D) (pv 0) (pe_glob rfl m__RULES_OF (v := .ref aD) rfl) rfl)
      (pss_one (ps_raiseN M hr (by rfl) m_NoKind rfl (takes_of rfl rfl rfl rfl) (pv 0)))
      pss_nil)
    (pss_one (ps_ret (pe_callTy (call_listTK K) (by rfl) m_list (by decide +kernel) (pa_cons (pe_ix (ix_kdK K w) (pe_glob rfl m__RULES_OF (v := .ref aD) rfl) (pv 0) (fun _ _ => rfl)) pa_nil))))), ?_⟩
    show tSeq _ _ _ [some (.str z)] H
    refine seqi fun k0 hk0 => ?_
    rcases q with ⟨k, hk, rfl, q⟩ | ⟨hz, q⟩
    · obtain ⟨es', n', u, g1, g2, g3, g4⟩ := X.dI k hk
      walk_at "rd"
      refine ⟨some u, g3, iteF ?_⟩
      subst hk0
      walk_at "rd"
      refine ⟨_, X.dI k hk, _, rfl, _, X.sT k hk H, fun l hl => ?_⟩
      refine q _ _ hl (same_new hl) ?_
      rw [ruD_eq]
      exact .lst upd_same (dts_strs _)
    · walk_at "rd"
      refine ⟨none, hodd z hz, iteT ?_⟩
      exact raise_var rfl q
abbrev s_Rules___init__ : Stmt := inClass (topS 13) 0
theorem sc_Rules___init__ : FnScope ["self", "names", "name", "rule"] ["self", "names"] (defScope s_Rules___init__) := ⟨rfl, rfl, rfl, by decide +kernel, rfl, by decide +kernel, by decide +kernel⟩
/-- names: texts, in a list -/
def spInL (K : PySem.W.Frag) (C CR : Addr) : Sp := fun vs H Q E => ∃ (p dx b : Addr) (zs : List Str), vs = [.ref p, .ref b] ∧ H p = some (.ins C dx []) ∧ SqL K H b (zs.map V.str) ∧ zs.length ≤ 900 ∧
  ((∀ y ∈ zs, y ∈ rS R9) → ∀ H', (∀ c o, H c = some o → c ≠ p → H' c = some o) → RuAt H' C p (R9.filter fun i => decide (rn i ∈ zs)) → Q .non H') ∧
  (∀ (i : Nat) (z : Str), zs[i]? = some z → z ∉ rS R9 → (∀ (j : Nat) (y : Str), j < i → zs[j]? = some y → y ∈ rS R9) → ∀ d H', H d = none → Same H H' → H' d = some (.xd [("name", .str z)]) → E (.ref CR) (some d) H')
theorem ok_initL {f : Addr} {fd : FuncData} {dvs : List V} (F : FunD K "__init__" "Rules.__init__" (defArgs s_Rules___init__) (defBody s_Rules___init__) (defScope s_Rules___init__) dvs [] f fd) (X : TxR K w mg aR aD C T)
    (D_weakest_kind : Dn P w K mg base 2 "_weakest_kind" ["names"] (spWeak K)) (m_NoRule : mg "NoRule" = some (.ref CR)) (M : Xe P w K mg base CR "name") : FnOk P w K mg base (L2.CX P w) 3 f fd ["self", "names"] (spInL K C CR) := by
  refine F.ok sc_Rules___init__ (fun vs H Q E h => ?_) (fun cdv A outer s H vs Q E hr h => ?_)
  · obtain ⟨p, dx, b, zs, rfl, _⟩ := h
    rfl
  · obtain ⟨p, dx, b, zs, rfl, hp, hv, hl, q, qe⟩ := h
    have m__RULES := X.mR
    have m_tuple := X.m_tuple
    refine ⟨_, (pss_cons (ps_for (passes_of rfl) rfl (pi_listK K (pv 1)) (pg_name (i := 2) sc_Rules___init__.nd rfl (.inl rfl))
      (pss_one (ps_if (pt_cmpR (op_notInK K) (pv 2) (pe_glob rfl m__RULES (v := .ref aR) rfl) rfl)
      (pss_one (ps_raiseN M hr (by rfl) m_NoRule rfl (takes_of rfl rfl rfl rfl) (pv 2)))
      pss_nil)))
    (pss_cons (ps_fldK K (pv 0) (pe_callTy (call_tupleK K) (by rfl) m_tuple (by decide +kernel) (pa_cons (pe_lc (own := [("rule", 3)]) rfl sc_Rules___init__.nd (pi_tupK K (pe_glob rfl m__RULES (v := .ref aR) rfl)) (blkOk_by (by kernel_rfl)) (fun _ _ _ _ _ => (pg_name (i := 3) sc_Rules___init__.nd rfl (.inl rfl))) (fun _ _ _ _ _ => pts_one (pt_cmpR (op_inK K) (pv 3) (pv 1) rfl)) (fun _ _ _ _ _ => (pv 3))) pa_nil)) rfl)
    (pss_one (ps_fldK K (pv 0) (pd D_weakest_kind (hr.mono (by decide)) (by rfl) (pa_cons (pe_fldK K (pv 0) rfl) pa_nil)) rfl)))), ?_⟩
    show tSeq _ _ _ [some (.ref p), some (.ref b), none, none] H
    refine seqi fun k0 hk0 => ?_
    walk_at "rd"
    refine ⟨⟨_, hv⟩, ?_⟩
    refine forg_by (jseq_list K _ _) (fun i σ' H' => (∃ y, σ' = [some (.ref p), some (.ref b), y, none]) ∧ H' = H ∧ ∀ (j : Nat) (y : Str), j < i → zs[j]? = some y → y ∈ rS R9) ⟨⟨none, rfl⟩, rfl, fun j y h => absurd h (Nat.not_lt_zero j)⟩ (fun i σ' H' _ h => by obtain ⟨_, rfl, _⟩ := h; exact hv) (fun i x σ' H' hx h => ?_) (fun σ' H' h => ?_)
    · obtain ⟨⟨y, rfl⟩, rfl, hok⟩ := h
      rw [List.getElem?_map] at hx
      obtain ⟨z, hz, rfl⟩ := Option.map_eq_some_iff.mp hx
      walk_at "rd"
      refine ⟨_, .inr (X.sR _), rfl, flat_strs _, ?_⟩
      rw [inV_strs]
      by_cases hm : z ∈ rS R9
      · rw [decide_eq_true hm]
        refine iteF ⟨⟨_, rfl⟩, fun j y hj hy => ?_⟩
        rcases Nat.lt_succ_iff_lt_or_eq.mp hj with hj | rfl
        · exact hok j y hj hy
        · rw [hz] at hy
          cases hy
          exact hm
      · rw [decide_eq_false hm]
        refine iteT ?_
        exact raise_var rfl (qe i z hz hm hok)
    · obtain ⟨⟨y, rfl⟩, rfl, hok⟩ := h
      subst hk0
      dsimp only
      rw [List.length_map] at hok
      have hall : ∀ y ∈ zs, y ∈ rS R9 := fun y hy => by
        obtain ⟨j, hj, e⟩ := List.getElem_of_mem hy
        exact hok j y hj (by rw [List.getElem?_eq_getElem hj, e])
      refine seqi fun k0 hk0 => ?_
      walk_at "rd"
      refine ⟨⟨_, X.sR _⟩, ?_⟩
      refine lcg_old (jseq_tup K _ _) (X.sR _) R9 (fun n => .str (rn n)) (dts_rS R9) (by decide) (fun n => decide (rn n ∈ zs)) (fun n => .str (rn n)) (fun z n hn hz H3 e3 S1 S0 s1 s0 => ?_) (fun D3 H3 hD3 e3 hD3d => ?_)
      · obtain rfl := hz.txt
        walk_at "rd"
        refine ⟨_, .inl (e3.seq hv), rfl, flat_strs _, ?_⟩
        rw [inV_strs]
        exact ite2 (fun h => s1 h _ _ (Same.refl _) (.str _)) (fun h => s0 (Bool.eq_false_iff.mpr h) _ (Same.refl _))
      · obtain ⟨a3, e, ha3⟩ := Dt.rules (l := R9.filter fun n => decide (rn n ∈ zs)) hD3d
        cases e
        have hp3 := e3 _ _ hp
        refine ⟨_, rfl, _, .inl (.inl ha3), fun l hl => ?_⟩
        have npl : p ≠ l := ne_of_none hp3 hl
        refine ⟨C, dx, [], (by rw [upd_ne npl]; exact hp3), X.cl, X.nN, (by decide), ?_⟩
        generalize hH4 : upd (upd H3 l (HO.tup ((rS (R9.filter fun n => decide (rn n ∈ zs))).map V.str))) p (.ins C dx (putF ("_names" : Str) (.ref l) [])) = H4
        have h4p : H4 p = some (.ins C dx (putF ("_names" : Str) (.ref l) [])) := by rw [← hH4, upd_same]
        have h4l : H4 l = some (.tup ((rS (R9.filter fun n => decide (rn n ∈ zs))).map V.str)) := by rw [← hH4, upd_ne npl.symm, upd_same]
        have h4b : ∀ b o, H' b = some o → b ≠ p → H4 b = some o := fun b o hb n => by
          rw [← hH4, upd_ne n, upd_ne (ne_of_none (e3 _ _ hb) hl)]
          exact e3 _ _ hb
        subst hk0
        walk_at "rd"
        refine ⟨C, dx, _, h4p, X.cl, X.nN, _, (by rw [lookup_putF, if_pos rfl]), ?_⟩
        refine ⟨l, _, rfl, fun n hn => (List.mem_filter.mp hn).1, List.length_filter_le _ _, .inl (.inl h4l), fun H5 e5 => ?_⟩
        refine ⟨C, dx, _, e5 _ _ h4p, X.cl, X.nK, (show 1 < 1000 by decide), ?_⟩
        refine q hall _ (fun b o hb n => ?_) ⟨dx, l, upd_same, ?_⟩
        · rw [upd_ne n]
          exact e5 _ _ (h4b b o hb n)
        · rw [upd_ne npl.symm]
          exact e5 _ _ h4l
/-- names: texts, in a tuple -/
def spInT (K : PySem.W.Frag) (C CR : Addr) : Sp := fun vs H Q E => ∃ (p dx b : Addr) (zs : List Str), vs = [.ref p, .ref b] ∧ H p = some (.ins C dx []) ∧ SqT K H b (zs.map V.str) ∧ zs.length ≤ 900 ∧
  ((∀ y ∈ zs, y ∈ rS R9) → ∀ H', (∀ c o, H c = some o → c ≠ p → H' c = some o) → RuAt H' C p (R9.filter fun i => decide (rn i ∈ zs)) → Q .non H') ∧
  (∀ (i : Nat) (z : Str), zs[i]? = some z → z ∉ rS R9 → (∀ (j : Nat) (y : Str), j < i → zs[j]? = some y → y ∈ rS R9) → ∀ d H', H d = none → Same H H' → H' d = some (.xd [("name", .str z)]) → E (.ref CR) (some d) H')
theorem ok_initT {f : Addr} {fd : FuncData} {dvs : List V} (F : FunD K "__init__" "Rules.__init__" (defArgs s_Rules___init__) (defBody s_Rules___init__) (defScope s_Rules___init__) dvs [] f fd) (X : TxR K w mg aR aD C T)
    (D_weakest_kind : Dn P w K mg base 2 "_weakest_kind" ["names"] (spWeak K)) (m_NoRule : mg "NoRule" = some (.ref CR)) (M : Xe P w K mg base CR "name") : FnOk P w K mg base (L2.CX P w) 3 f fd ["self", "names"] (spInT K C CR) := by
  refine F.ok sc_Rules___init__ (fun vs H Q E h => ?_) (fun cdv A outer s H vs Q E hr h => ?_)
  · obtain ⟨p, dx, b, zs, rfl, _⟩ := h
    rfl
  · obtain ⟨p, dx, b, zs, rfl, hp, hv, hl, q, qe⟩ := h
    have m__RULES := X.mR
    have m_tuple := X.m_tuple
    refine ⟨_, (pss_cons (ps_for (passes_of rfl) rfl (pi_tupK K (pv 1)) (pg_name (i := 2) sc_Rules___init__.nd rfl (.inl rfl))
      (pss_one (ps_if (pt_cmpR (op_notInK K) (pv 2) (pe_glob rfl m__RULES (v := .ref aR) rfl) rfl)
      (pss_one (ps_raiseN M hr (by rfl) m_NoRule rfl (takes_of rfl rfl rfl rfl) (pv 2)))
      pss_nil)))
    (pss_cons (ps_fldK K (pv 0) (pe_callTy (call_tupleK K) (by rfl) m_tuple (by decide +kernel) (pa_cons (pe_lc (own := [("rule", 3)]) rfl sc_Rules___init__.nd (pi_tupK K (pe_glob rfl m__RULES (v := .ref aR) rfl)) (blkOk_by (by kernel_rfl)) (fun _ _ _ _ _ => (pg_name (i := 3) sc_Rules___init__.nd rfl (.inl rfl))) (fun _ _ _ _ _ => pts_one (pt_cmpR (op_inK K) (pv 3) (pv 1) rfl)) (fun _ _ _ _ _ => (pv 3))) pa_nil)) rfl)
    (pss_one (ps_fldK K (pv 0) (pd D_weakest_kind (hr.mono (by decide)) (by rfl) (pa_cons (pe_fldK K (pv 0) rfl) pa_nil)) rfl)))), ?_⟩
    show tSeq _ _ _ [some (.ref p), some (.ref b), none, none] H
    refine seqi fun k0 hk0 => ?_
    walk_at "rd"
    refine ⟨⟨_, hv⟩, ?_⟩
    refine forg_by (jseq_tup K _ _) (fun i σ' H' => (∃ y, σ' = [some (.ref p), some (.ref b), y, none]) ∧ H' = H ∧ ∀ (j : Nat) (y : Str), j < i → zs[j]? = some y → y ∈ rS R9) ⟨⟨none, rfl⟩, rfl, fun j y h => absurd h (Nat.not_lt_zero j)⟩ (fun i σ' H' _ h => by obtain ⟨_, rfl, _⟩ := h; exact hv) (fun i x σ' H' hx h => ?_) (fun σ' H' h => ?_)
    · obtain ⟨⟨y, rfl⟩, rfl, hok⟩ := h
      rw [List.getElem?_map] at hx
      obtain ⟨z, hz, rfl⟩ := Option.map_eq_some_iff.mp hx
      walk_at "rd"
      refine ⟨_, .inr (X.sR _), rfl, flat_strs _, ?_⟩
      rw [inV_strs]
      by_cases hm : z ∈ rS R9
      · rw [decide_eq_true hm]
        refine iteF ⟨⟨_, rfl⟩, fun j y hj hy => ?_⟩
        rcases Nat.lt_succ_iff_lt_or_eq.mp hj with hj | rfl
        · exact hok j y hj hy
        · rw [hz] at hy
          cases hy
          exact hm
      · rw [decide_eq_false hm]
        refine iteT ?_
        exact raise_var rfl (qe i z hz hm hok)
    · obtain ⟨⟨y, rfl⟩, rfl, hok⟩ := h
      subst hk0
      dsimp only
      rw [List.length_map] at hok
      have hall : ∀ y ∈ zs, y ∈ rS R9 := fun y hy => by
        obtain ⟨j, hj, e⟩ := List.getElem_of_mem hy
        exact hok j y hj (by rw [List.getElem?_eq_getElem hj, e])
      refine seqi fun k0 hk0 => ?_
      walk_at "rd"
      refine ⟨⟨_, X.sR _⟩, ?_⟩
      refine lcg_old (jseq_tup K _ _) (X.sR _) R9 (fun n => .str (rn n)) (dts_rS R9) (by decide) (fun n => decide (rn n ∈ zs)) (fun n => .str (rn n)) (fun z n hn hz H3 e3 S1 S0 s1 s0 => ?_) (fun D3 H3 hD3 e3 hD3d => ?_)
      · obtain rfl := hz.txt
        walk_at "rd"
        refine ⟨_, .inr (same_tup e3 hv), rfl, flat_strs _, ?_⟩
        rw [inV_strs]
        exact ite2 (fun h => s1 h _ _ (Same.refl _) (.str _)) (fun h => s0 (Bool.eq_false_iff.mpr h) _ (Same.refl _))
      · obtain ⟨a3, e, ha3⟩ := Dt.rules (l := R9.filter fun n => decide (rn n ∈ zs)) hD3d
        cases e
        have hp3 := e3 _ _ hp
        refine ⟨_, rfl, _, .inl (.inl ha3), fun l hl => ?_⟩
        have npl : p ≠ l := ne_of_none hp3 hl
        refine ⟨C, dx, [], (by rw [upd_ne npl]; exact hp3), X.cl, X.nN, (by decide), ?_⟩
        generalize hH4 : upd (upd H3 l (HO.tup ((rS (R9.filter fun n => decide (rn n ∈ zs))).map V.str))) p (.ins C dx (putF ("_names" : Str) (.ref l) [])) = H4
        have h4p : H4 p = some (.ins C dx (putF ("_names" : Str) (.ref l) [])) := by rw [← hH4, upd_same]
        have h4l : H4 l = some (.tup ((rS (R9.filter fun n => decide (rn n ∈ zs))).map V.str)) := by rw [← hH4, upd_ne npl.symm, upd_same]
        have h4b : ∀ b o, H' b = some o → b ≠ p → H4 b = some o := fun b o hb n => by
          rw [← hH4, upd_ne n, upd_ne (ne_of_none (e3 _ _ hb) hl)]
          exact e3 _ _ hb
        subst hk0
        walk_at "rd"
        refine ⟨C, dx, _, h4p, X.cl, X.nN, _, (by rw [lookup_putF, if_pos rfl]), ?_⟩
        refine ⟨l, _, rfl, fun n hn => (List.mem_filter.mp hn).1, List.length_filter_le _ _, .inl (.inl h4l), fun H5 e5 => ?_⟩
        refine ⟨C, dx, _, e5 _ _ h4p, X.cl, X.nK, (show 1 < 1000 by decide), ?_⟩
        refine q hall _ (fun b o hb n => ?_) ⟨dx, l, upd_same, ?_⟩
        · rw [upd_ne n]
          exact e5 _ _ (h4b b o hb n)
        · rw [upd_ne npl.symm]
          exact e5 _ _ h4l
end
end Fp

namespace Fp
open PySem PySem.Spec PyProof.Rows L2 ClX
local macro_rules | `(tactic| walk_at "rd") => `(tactic| simp only [tCMeth, tOst, rOwnLen, rOwnBool, rBoolT, rListKK, cxK, cxKn, tRet, tRetN, rIntI, rIntB, rLenL, rListL, rListT, rAbs, tDisp, tPairs, tC, tCB, tCons, tNil, tSl, tVar, tNoPart, tPart, rSlL, tOp, tAsg, gName, tIfS, tDrop, tTest, tAnd, tOr, Evl.tCut, tNot, tB, rI0, rI, rIxL, rIxT, rIxD, tDGet, sDPut, tLst, tTup, tBM, tBM0, tPar, rAppend, rPopAt, rPop, rExtend, rTupL, tCall, tNext, rAll, rOwnIn, rOwn2, rCat, lc_iL, lc_iT, lc_iK, lc_iR, lc_iE, fr_iL, fr_iT, fr_iR, tYes, rIn, rEq, rNe, gTup, gCons, gNil, wipe, tMeth, tFld, sFld, tMake, tProp, tIf, tAndV, tOrV, tNotV, tTru, rIsi, rSum, tRevL, rU, tUn, rIxS, iEnum, if_true, if_false, Bool.false_eq_true, List.map_cons, List.map_nil, List.nil_append, List.append_nil, List.cons_append, List.getElem?_cons_zero, List.getElem?_cons_succ, Option.some.injEq, exists_and_left, exists_eq_left', exists_eq_left, List.cons.injEq, and_true, true_and, V.ref.injEq, V.int.injEq, V.str.injEq, V.bl.injEq, List.set_cons_zero, List.set_cons_succ])
section
variable {K : PySem.W.Frag} {P : Program} {w : World} {base : Heap} {mg : Str → Option Value} {aR aD C FE CR CK : Addr} {T : Nat → Addr}
def rLenT (K : PySem.W.Frag) : List V → Hp → VK → Prop := fun xs H Q => ∃ p ys, xs = [.ref p] ∧ SqT K H p ys ∧ Q (.int ys.length) H
theorem call_lenT {X : Cx} (hK : X.K = K := by rfl) : CallR X (.builtin "len") (rLenT K) := by
  subst hK
  intro pins s σ H xs us Q I r h
  obtain ⟨p, ys, e, h1, q⟩ := h
  exact call_len_seq pins s σ H xs us Q I r ⟨p, ys, e, .inr h1, q⟩
/-- what is made of texts -/
def GoodQ (C : Addr) (zs : List Str) (H : Hp) (Q : VK) : Prop := (∀ y ∈ zs, y ∈ rS R9) → ∀ (p : Addr) (H' : Hp), Same H H' → RuAt H' C p (R9.filter fun i => decide (rn i ∈ zs)) → Q (.ref p) H'
def BadQ (CR : Addr) (zs : List Str) (H : Hp) (E : XK) : Prop := ∀ (i : Nat) (z : Str), zs[i]? = some z → z ∉ rS R9 → (∀ (j : Nat) (y : Str), j < i → zs[j]? = some y → y ∈ rS R9) →
  ∀ (d : Addr) (H' : Hp), H d = none → Same H H' → H' d = some (.xd [("name", .str z)]) → E (.ref CR) (some d) H'
def spIn (K : PySem.W.Frag) (C CR : Addr) : Sp := fun vs H Q E => spInL K C CR vs H Q E ∨ spInT K C CR vs H Q E
theorem mk_newA {H : Hp} {b : Addr} {zs : List Str} {Q : Addr → Hp → Prop} {E : XK} (hb : SqL K H b (zs.map V.str) ∨ SqT K H b (zs.map V.str)) (hl : zs.length ≤ 900) (g : (∀ y ∈ zs, y ∈ rS R9) → ∀ (p : Addr) (H' : Hp), Same H H' → RuAt H' C p (R9.filter fun i => decide (rn i ∈ zs)) → Q p H') (e : BadQ CR zs H E) :
    ∀ x dx, H x = none → H dx = none → dx ≠ x → spIn K C CR [.ref x, .ref b] (upd (upd H dx (.own x)) x (.ins C dx [])) (fun v H2 => v = .non ∧ Q x H2) E := by
  intro x dx nx ndx ne
  have e2 : Same H (upd (upd H dx (.own x)) x (.ins C dx [])) := fun b o hb => by
    rw [upd_ne (ne_of_none hb nx), upd_ne (ne_of_none hb ndx)]
    exact hb
  have good : (∀ y ∈ zs, y ∈ rS R9) → ∀ H', (∀ c o, (upd (upd H dx (.own x)) x (.ins C dx [])) c = some o → c ≠ x → H' c = some o) → RuAt H' C x (R9.filter fun i => decide (rn i ∈ zs)) → (V.non = V.non ∧ Q x H') := fun ha H' k r =>
    ⟨rfl, g ha x H' (fun c o hc => k c o (e2 _ _ hc) (ne_of_none hc nx)) r⟩
  have bad : ∀ (i : Nat) (z : Str), zs[i]? = some z → z ∉ rS R9 → (∀ (j : Nat) (y : Str), j < i → zs[j]? = some y → y ∈ rS R9) → ∀ d H', (upd (upd H dx (.own x)) x (.ins C dx [])) d = none → Same (upd (upd H dx (.own x)) x (.ins C dx [])) H' → H' d = some (.xd [("name", .str z)]) → E (.ref CR) (some d) H' := fun i z h1 h2 h3 d H' hd s hx => by
    refine e i z h1 h2 h3 d H' ?_ (e2.trans s) hx
    have n1 : d ≠ x := fun z => by rw [z, upd_same] at hd; cases hd
    have n2 : d ≠ dx := fun z => by rw [z, upd_ne ne, upd_same] at hd; cases hd
    rw [upd_ne n1, upd_ne n2] at hd
    exact hd
  rcases hb with hb | hb
  · exact .inl ⟨x, dx, b, zs, rfl, upd_same, e2.seq hb, hl, good, bad⟩
  · exact .inr ⟨x, dx, b, zs, rfl, upd_same, same_tup e2 hb, hl, good, bad⟩
theorem mk_new {H : Hp} {b : Addr} {zs : List Str} {Q : VK} {E : XK} (hb : SqL K H b (zs.map V.str) ∨ SqT K H b (zs.map V.str)) (hl : zs.length ≤ 900) (g : GoodQ C zs H Q) (e : BadQ CR zs H E) :
    ∀ x dx, H x = none → H dx = none → dx ≠ x → spIn K C CR [.ref x, .ref b] (upd (upd H dx (.own x)) x (.ins C dx [])) (fun v H2 => v = .non ∧ Q (.ref x) H2) E := mk_newA (Q := fun x H2 => Q (.ref x) H2) hb hl g e
theorem bad_none {zs : List Str} {H : Hp} {E : XK} (h : ∀ y ∈ zs, y ∈ rS R9) : BadQ CR zs H E := fun i z hz hn _ => absurd (h z (List.mem_of_getElem? hz)) hn
/-- Rules.of -/
def spOfB (C CR : Addr) : Sp := fun vs H Q E => ∃ (p : Addr) (zs : List Str), vs = [.ref C, .ref p] ∧ H p = some (.tup (zs.map V.str)) ∧ zs.length ≤ 900 ∧ GoodQ C zs H Q ∧ BadQ CR zs H E
def spOf (C CR : Addr) : Sp := fun vs H Q E => ∃ zs : List Str, vs = .ref C :: zs.map V.str ∧ zs.length ≤ 900 ∧ GoodQ C zs H Q ∧ BadQ CR zs H E
abbrev s_Rules_of : Stmt := inClass (topS 13) 1
theorem sc_Rules_of : FnScope ["cls", "names"] ["cls", "names"] (defScope s_Rules_of) := ⟨rfl, rfl, rfl, by decide +kernel, rfl, by decide +kernel, by decide +kernel⟩
theorem ok_of {f : Addr} {fd : FuncData} {dvs : List V} (F : Fun K "of" "Rules.of" s_Rules_of f fd) (N : Ke P w K mg base 3 C ["self", "names"] dvs (spIn K C CR)) : FnR P w K mg base (L2.CX P w) 5 f (spOf C CR) := by
  obtain ⟨oc, od, kV, doc, pm, an, cdv, ct, osl, rfl, lk, hcd⟩ := F.ex
  refine FnR.imp (StX.fn_star (k := 4) (ps := ["cls"]) (pv := "names") (sp := spOfB C CR) lk hcd sc_Rules_of StX.cxUp (StX.bind_star1 (p1 := "cls") (pv := "names") (B := fun l => bindArgs (PySem.W.fnOf "of" "Rules.of" (defArgs s_Rules_of) (defBody s_Rules_of) (defScope s_Rules_of) .none kV doc pm an cdv ct) ⟨l, []⟩) (fun a => by rfl) (fun a r rs => by rfl)) (fun A outer s H vs Q E hr h => ?_)) (fun vs H Q E h => ?_)
  · obtain ⟨p, zs, rfl, hp, hl, g, e⟩ := h
    refine ⟨_, (pss_one (ps_ret (pkl (i := 0) N hr rfl (.inl rfl) (passes_call (takes_of rfl rfl rfl rfl) fun _ _ _ _ h => h) (pa_cons (pv 1) pa_nil)))), ?_⟩
    show tRet _ _ [some (.ref C), some (.ref p)] H
    refine ⟨rfl, ?_⟩
    refine ⟨_, rfl, ?_⟩
    exact mk_new (.inr (.inl (.inl hp))) hl g e
  · obtain ⟨zs, rfl, hl, g, e⟩ := h
    refine ⟨[.ref C], zs.map V.str, rfl, rfl, by rw [List.length_map]; exact Nat.le_of_lt (small1000 (by omega)), fun p hp => ⟨p, zs, rfl, upd_same, hl, fun ha p' H' s r => g ha p' H' ((same_new hp).trans s) r, fun i z h1 h2 h3 d H' hd s hx => ?_⟩⟩
    refine e i z h1 h2 h3 d H' ?_ ((same_new hp).trans s) hx
    have n : d ≠ p := fun z => by rw [z, upd_same] at hd; cases hd
    rw [upd_ne n] at hd
    exact hd
def spAllOf (C CK : Addr) : Sp := fun vs H Q E => ∃ z : Str, vs = [.ref C, .str z] ∧ ((∃ k ∈ K13, z = kn k ∧ ∀ (p : Addr) H', Same H H' → RuAt H' C p (KR k) → Q (.ref p) H') ∨
  (z ∈ oddK ∧ ∀ d H', H d = none → Same H H' → H' d = some (.xd [("name", .str z)]) → E (.ref CK) (some d) H'))
theorem KR_names {k : Nat} (hk : k ∈ K13) : (R9.filter fun i => decide (rn i ∈ rS (KR k))) = KR k := by
  refine Eq.trans (List.filter_congr fun i hi => ?_) (KR_filter hk)
  exact decide_eq_decide.mpr (iff_of_eq (mem_rS hi (KR_in k hk)))
abbrev s_Rules_all_of : Stmt := inClass (topS 13) 2
theorem sc_Rules_all_of : FnScope ["cls", "kind"] ["cls", "kind"] (defScope s_Rules_all_of) := ⟨rfl, rfl, rfl, by decide +kernel, rfl, by decide +kernel, by decide +kernel⟩
theorem ok_all_of {f : Addr} {fd : FuncData} {dvs : List V} (F : Fun K "all_of" "Rules.all_of" s_Rules_all_of f fd) (N : Ke P w K mg base 3 C ["self", "names"] dvs (spIn K C CR)) (D_rules_of : De P w K mg base 3 "rules_of" ["kind"] (spRulesOfE CK)) :
    FnOk P w K mg base (L2.CX P w) 5 f fd ["cls", "kind"] (spAllOf C CK) := by
  refine F.okX sc_Rules_all_of (fun vs H Q E h => ?_) (fun cdv A outer s H vs Q E hr h => ?_)
  · obtain ⟨z, rfl, _⟩ := h
    rfl
  · obtain ⟨z, rfl, h⟩ := h
    refine ⟨_, (pss_one (ps_ret (pkl (i := 0) (E := E) N hr rfl (.inl rfl) (passes_call (takes_of rfl rfl rfl rfl) fun _ _ _ _ h => h) (pa_cons (pde (E := E) D_rules_of (hr.mono (by decide)) (by rfl) (passes_call (takes_of rfl rfl rfl rfl) fun _ _ _ _ h => h) (pa_cons (pv 1) pa_nil)) pa_nil)))), ?_⟩
    show tRet _ _ [some (.ref C), some (.str z)] H
    refine ⟨rfl, ?_⟩
    refine ⟨_, rfl, ?_⟩
    rcases h with ⟨k, hk, rfl, q⟩ | ⟨hz, q⟩
    · refine ⟨kn k, rfl, .inl ⟨k, hk, rfl, fun v H1 _ e1 hv => ?_⟩⟩
      obtain ⟨b, eb, hb⟩ := hv.rules
      cases eb
      have hall : ∀ y ∈ rS (KR k), y ∈ rS R9 := fun y hy => by
        obtain ⟨n, hn, rfl⟩ := List.mem_map.mp hy
        exact List.mem_map_of_mem (KR_in k hk n hn)
      have hlen : (rS (KR k)).length ≤ 900 := by
        have : ∀ k ∈ K13, (rS (KR k)).length ≤ 900 := by decide
        exact this k hk
      refine mk_new (zs := rS (KR k)) (.inl (.inl (.inl hb))) hlen (fun _ p H' s r => q p H' (e1.trans s) ?_) (bad_none hall)
      rw [KR_names hk] at r
      exact r
    · exact ⟨z, rfl, .inr ⟨hz, q⟩⟩
abbrev s_Rules___len__ : Stmt := inClass (topS 13) 7
theorem sc_Rules___len__ : FnScope ["self"] ["self"] (defScope s_Rules___len__) := ⟨rfl, rfl, rfl, by decide +kernel, rfl, by decide +kernel, by decide +kernel⟩
def spLen (C : Addr) : Sp := fun vs H Q _ => ∃ p s, vs = [.ref p] ∧ RuAt H C p s ∧ Q (.int (s.length : Nat)) H
theorem ok_len {f : Addr} {fd : FuncData} (F : Fun K "__len__" "Rules.__len__" s_Rules___len__ f fd) (X : TxR K w mg aR aD C T) (m_len : mg "len" = none) : FnOk P w K mg base CX0 1 f fd ["self"] (spLen C) := by
  refine F.ok sc_Rules___len__ (fun vs H Q E h => ?_) (fun cdv A outer s H vs Q E hr h => ?_)
  · obtain ⟨p, s, rfl, _⟩ := h
    rfl
  · obtain ⟨p, s, rfl, ⟨dx, t, h1, h2⟩, q⟩ := h
    refine ⟨_, (pss_one (ps_ret (pe_callB (call_lenT (K := K)) (by rfl) m_len PySem.boot_len (pa_cons (pe_fldK K (pv 0) rfl) pa_nil)))), ?_⟩
    show tRet _ _ [some (.ref p)] H
    walk_at "rd"
    refine ⟨C, dx, _, h1, X.cl, X.nN, _, rFl_names _ _, t, _, rfl, .inl (.inl h2), ?_⟩
    have e : ((rS s).map V.str).length = s.length := by rw [List.length_map]; exact List.length_map _
    rw [e]
    exact q
abbrev s_Rules___bool__ : Stmt := inClass (topS 13) 8
theorem sc_Rules___bool__ : FnScope ["self"] ["self"] (defScope s_Rules___bool__) := ⟨rfl, rfl, rfl, by decide +kernel, rfl, by decide +kernel, by decide +kernel⟩
def spBool (C : Addr) : Sp := fun vs H Q _ => ∃ p s, vs = [.ref p] ∧ RuAt H C p s ∧ Q (.bl (!s.isEmpty)) H
theorem ok_bool {f : Addr} {fd : FuncData} (F : Fun K "__bool__" "Rules.__bool__" s_Rules___bool__ f fd) (X : TxR K w mg aR aD C T) (m_bool : mg "bool" = none) : FnOk P w K mg base CX0 1 f fd ["self"] (spBool C) := by
  refine F.ok sc_Rules___bool__ (fun vs H Q E h => ?_) (fun cdv A outer s H vs Q E hr h => ?_)
  · obtain ⟨p, s, rfl, _⟩ := h
    rfl
  · obtain ⟨p, s, rfl, ⟨dx, t, h1, h2⟩, q⟩ := h
    refine ⟨_, (pss_one (ps_ret (pe_callTy (call_boolT (K := K)) (by rfl) m_bool (by decide +kernel) (pa_cons (pe_fldK K (pv 0) rfl) pa_nil)))), ?_⟩
    show tRet _ _ [some (.ref p)] H
    walk_at "rd"
    refine ⟨C, dx, _, h1, X.cl, X.nN, _, rFl_names _ _, t, rfl, _, .inl (.inl h2), ?_⟩
    have e : ((rS s).map V.str).isEmpty = s.isEmpty := by cases s <;> rfl
    rw [e]
    exact q
end
end Fp

namespace Fp
open PySem PySem.Spec PyProof.Rows L2 ClX
local macro_rules | `(tactic| walk_at "rd") => `(tactic| simp only [tCMeth, tOst, rOwnLen, rOwnBool, rBoolT, rListKK, tXf, cxK, cxKn, tRet, tRetN, rIntI, rIntB, rLenL, rListL, rListT, rAbs, tDisp, tPairs, tC, tCB, tCons, tNil, tSl, tVar, tNoPart, tPart, rSlL, tOp, tAsg, gName, tIfS, tDrop, tTest, tAnd, tOr, Evl.tCut, tNot, tB, rI0, rI, rIxL, rIxT, rIxD, tDGet, sDPut, tLst, tTup, tBM, tBM0, tPar, rAppend, rPopAt, rPop, rExtend, rTupL, tCall, tNext, rAll, rOwnIn, rOwn2, rCat, lc_iL, lc_iT, lc_iK, lc_iR, lc_iE, fr_iL, fr_iT, fr_iR, tYes, rIn, rEq, rNe, gTup, gCons, gNil, wipe, tMeth, tFld, sFld, tMake, tProp, tIf, tAndV, tOrV, tNotV, tTru, rIsi, rSum, tRevL, rU, tUn, rIxS, iEnum, if_true, if_false, Bool.false_eq_true, List.map_cons, List.map_nil, List.nil_append, List.append_nil, List.cons_append, List.getElem?_cons_zero, List.getElem?_cons_succ, Option.some.injEq, exists_and_left, exists_eq_left', exists_eq_left, List.cons.injEq, and_true, true_and, V.ref.injEq, V.int.injEq, V.str.injEq, V.bl.injEq, List.set_cons_zero, List.set_cons_succ])
section
variable {K : PySem.W.Frag} {P : Program} {w : World} {base : Heap} {mg : Str → Option Value} {aR aD C FE CR CK : Addr} {T : Nat → Addr}
/-- what comes out of an error: the word, its text -/
def RefE (CR CK : Addr) (Q : VK) : XK := fun cls d H' => ∃ (dd : Addr) (v : V) (nm : Str), d = some dd ∧ H' dd = some (.xd [("name", v)]) ∧ ((cls = .ref CR ∧ nm = "rule") ∨ (cls = .ref CK ∧ nm = "kind")) ∧
  ∀ p, H' p = none → Q (.ref p) (upd H' p (.tup [.str nm, v, .bl true]))
def TTref (CR CK : Addr) : (XK → Hp → VK → Prop) → Hp → VK → Prop := fun tl H Q => tl (RefE CR CK Q) H (fun _ H' => Q .non H')
abbrev s__law_refused : Stmt := topS 22
theorem sc__law_refused : FnScope ["call", "e"] ["call"] (defScope s__law_refused) := ⟨rfl, rfl, rfl, by decide +kernel, rfl, by decide +kernel, by decide +kernel⟩
theorem ok_refused {f : Addr} {fd : FuncData} (F : Fun K "_law_refused" "_law_refused" s__law_refused f fd) (G : EFam K FE [CR, CK]) (hg : mg "_law_refused" = some (.ref f)) (hk : PySem.W.keepIn K (.ref f) = true) (hb : Binds K fd ["call"] [])
    (eRR : PySem.W.exmOne K (.ref CR) (.ref CR) = some true) (eKR : PySem.W.exmOne K (.ref CK) (.ref CR) = some false) (eKK : PySem.W.exmOne K (.ref CK) (.ref CK) = some true)
    (nR : PySem.W.findIn K (.ref CR) "name" = some none) (nK : PySem.W.findIn K (.ref CK) "name" = some none) (nRK : CR ≠ CK)
    (m_NoRule : mg "NoRule" = some (.ref CR)) (m_NoKind : mg "NoKind" = some (.ref CK)) (m_FoldError : mg "FoldError" = some (.ref FE)) (m_isinstance : mg "isinstance" = none) (m_ValueError : mg "ValueError" = none) :
    LcOk P w K mg base "_law_refused" (TTref CR CK) := by
  obtain ⟨oc, od, kV, doc, pm, an, cdv, ct, osl, rfl, lk, hcd⟩ := F.ex
  refine ⟨f, oc, od, osl, _, _, _, _, kV, doc, pm, cdv, ct, an, ["call", "e"], "call", hg, hk, lk, hcd, hb, sc__law_refused, rfl, .inl rfl, by decide, by decide, fun X q h1 h2 h3 h4 h5 => ?_⟩
  subst h1 h2 h3 h4 h5
  intro fa c' s H Q tl act hc h
  refine ⟨_, pss_cons (ps_try_cl (X := (cxOf C8.CX0 X.prog X.w X.K X.mg X.base ["call", "e"] "_law_refused" (defScope s__law_refused) f cdv X.A X.stack s H C8.E0).nox)
      (tb := fun W D σ H => ∃ Ech : XK, (∀ cls d (σ' : L2.St) H', Ech cls d H' → σ'.length = 2 → W cls d σ' H') ∧ tDrop (fun σZ HZ Q => σZ[0]? = some (some (.ref fa)) ∧ HZ c' = some (LamX.CodeO c' q) ∧ tl Ech HZ Q) D σ H)
      rfl rfl sc__law_refused.nd takes0 (fun W pn xe tk _ => ?_)
      (.cons (i := 1) (c := .ref CR) rfl rfl ⟨rfl, by decide, .inl m_NoRule⟩ (fun a oe cls d pn hz hf => pss_one (ps_ret (pe_tup (pa_cons pe_str (pa_cons (pe_xf (C := CR) (G.ec CR (by simp)).xf nR hz hf (pv 1)) (pa_cons (pe_and (pe_callB (call_isX (K := X.K) hz hf) (by rfl) m_isinstance (by decide +kernel) (pa_cons (pv 1) (pa_cons (pe_glob rfl m_FoldError (v := .ref FE) rfl) pa_nil))) (pe_and (pe_callB (call_isX (K := X.K) hz hf) (by rfl) m_isinstance (by decide +kernel) (pa_cons (pv 1) (pa_cons (pe_bltn (v := .ty "ValueError") rfl m_ValueError (by decide +kernel) rfl) pa_nil))) (pe_one (pe_not (pe_callB (call_isX (K := X.K) hz hf) (by rfl) m_isinstance (by decide +kernel) (pa_cons (pv 1) (pa_cons (pe_glob rfl m_NoKind (v := .ref CK) rfl) pa_nil))))))) pa_nil))))))
      (.cons (i := 1) (c := .ref CK) rfl rfl ⟨rfl, by decide, .inl m_NoKind⟩ (fun a oe cls d pn hz hf => pss_one (ps_ret (pe_tup (pa_cons pe_str (pa_cons (pe_xf (C := CK) (G.ec CK (by simp)).xf nK hz hf (pv 1)) (pa_cons (pe_and (pe_callB (call_isX (K := X.K) hz hf) (by rfl) m_isinstance (by decide +kernel) (pa_cons (pv 1) (pa_cons (pe_glob rfl m_FoldError (v := .ref FE) rfl) pa_nil))) (pe_and (pe_callB (call_isX (K := X.K) hz hf) (by rfl) m_isinstance (by decide +kernel) (pa_cons (pv 1) (pa_cons (pe_bltn (v := .ty "ValueError") rfl m_ValueError (by decide +kernel) rfl) pa_nil))) (pe_one (pe_not (pe_callB (call_isX (K := X.K) hz hf) (by rfl) m_isinstance (by decide +kernel) (pa_cons (pv 1) (pa_cons (pe_glob rfl m_NoRule (v := .ref CR) rfl) pa_nil))))))) pa_nil)))))) .nil)))
    (pss_one (ps_ret pe_non)), ?_⟩
  · exact pss_ex fun Ech hW => pss_one (ps_expr (act _ pn xe Ech _ _ (takes_len tk) fun cls d σ' H' h1 h2 => hW cls d σ' H' h1 h2))
  · show tSeq _ _ _ [some (.ref fa), none] H
    refine seqi fun k0 hk0 => ?_
    have exR := G.exc (C := CR) (by simp)
    have exK := G.exc (C := CK) (by simp)
    have i1 : PySem.W.kitOne X.K (.ref CR) (.ref CK) = some false := by
      rw [G.is (by simp) (by simp), decide_eq_false nRK]
    have i2 : PySem.W.kitOne X.K (.ref CK) (.ref CR) = some false := by
      rw [G.is (by simp) (by simp), decide_eq_false nRK.symm]
    refine ⟨RefE CR CK Q, fun cls d σ' H' he hlen => ?_, rfl, hc, ?_⟩
    · obtain ⟨dd, v, nm, rfl, hd, hcl, hQ⟩ := he
      have hs1 : ∀ a : Addr, (σ'.set 1 (some (.ref a)))[1]? = some (some (.ref a)) := fun a => List.getElem?_set_self (by omega)
      rcases hcl with ⟨rfl, rfl⟩ | ⟨rfl, rfl⟩
      · refine ⟨true, eRR, fun _ a ha => ?_, fun z => absurd z (by decide)⟩
        dsimp only
        walk_at "rd"
        refine ⟨_, hs1 a, ?_⟩
        have hdd : ∀ dd', (some dd : Option Addr) = some dd' → ∃ fs, H' dd' = some (.xd fs) := fun dd' e => by cases e; exact ⟨_, hd⟩
        refine ⟨rfl, _, hd, v, rfl, .ref a, hs1 a, ?_⟩
        refine ⟨.ref FE, .ref FE, true, CR, rfl, rfl, fun u r => r, G.isF (by simp), exR, hdd, true, rfl, iteT ?_⟩
        refine ⟨.ref a, hs1 a, ?_⟩
        refine ⟨.ty "ValueError", .type "ValueError", true, CR, rfl, rfl, fun u r => r, G.isVE (by simp), exR, hdd, true, rfl, iteT ?_⟩
        refine ⟨.ref a, hs1 a, ?_⟩
        refine ⟨.ref CK, .ref CK, false, CR, rfl, rfl, fun u r => r, i1, exR, hdd, false, rfl, ?_⟩
        exact ⟨Nat.le_of_lt (small1000 (show 3 ≤ 1000 by decide)), fun p hp => hQ p hp⟩
      · refine ⟨false, eKR, fun z => absurd z (by decide), fun _ => ⟨true, eKK, fun _ a ha => ?_, fun z => absurd z (by decide)⟩⟩
        dsimp only
        walk_at "rd"
        refine ⟨_, hs1 a, ?_⟩
        have hdd : ∀ dd', (some dd : Option Addr) = some dd' → ∃ fs, H' dd' = some (.xd fs) := fun dd' e => by cases e; exact ⟨_, hd⟩
        refine ⟨rfl, _, hd, v, rfl, .ref a, hs1 a, ?_⟩
        refine ⟨.ref FE, .ref FE, true, CK, rfl, rfl, fun u r => r, G.isF (by simp), exK, hdd, true, rfl, iteT ?_⟩
        refine ⟨.ref a, hs1 a, ?_⟩
        refine ⟨.ty "ValueError", .type "ValueError", true, CK, rfl, rfl, fun u r => r, G.isVE (by simp), exK, hdd, true, rfl, iteT ?_⟩
        refine ⟨.ref a, hs1 a, ?_⟩
        refine ⟨.ref CR, .ref CR, false, CK, rfl, rfl, fun u r => r, i2, exK, hdd, false, rfl, ?_⟩
        exact ⟨Nat.le_of_lt (small1000 (show 3 ≤ 1000 by decide)), fun p hp => hQ p hp⟩
    · subst hk0
      exact h

def spLawOf (C : Addr) : Sp := fun vs H Q _ => ∃ v ns, vs = [v] ∧ Dt H v (ruD ns) ∧ (∀ n ∈ ns, n ∈ R9) ∧ ns.length ≤ 3 ∧ ∀ (p : Addr) H', Same H H' → RuAt H' C p (R9.filter fun i => decide (i ∈ ns)) → Q (.ref p) H'
theorem good_of {ns : List Nat} {H H1 : Hp} {Q : VK} (hns : ∀ n ∈ ns, n ∈ R9) (e : Same H H1) (q : ∀ (p : Addr) H', Same H H' → RuAt H' C p (R9.filter fun i => decide (i ∈ ns)) → Q (.ref p) H') : GoodQ C (rS ns) H1 Q := fun _ p H' s r => by
  refine q p H' (e.trans s) ?_
  have e2 : (R9.filter fun i => decide (rn i ∈ rS ns)) = R9.filter fun i => decide (i ∈ ns) := List.filter_congr fun i hi => decide_eq_decide.mpr (iff_of_eq (mem_rS hi hns))
  rw [e2] at r
  exact r
theorem rS_all {ns : List Nat} (hns : ∀ n ∈ ns, n ∈ R9) : ∀ y ∈ rS ns, y ∈ rS R9 := fun y hy => by
  obtain ⟨n, hn, rfl⟩ := List.mem_map.mp hy
  exact List.mem_map_of_mem (hns n hn)
abbrev s__law_of : Stmt := topS 24
theorem sc__law_of : FnScope ["some"] ["some"] (defScope s__law_of) := ⟨rfl, rfl, rfl, by decide +kernel, rfl, by decide +kernel, by decide +kernel⟩
theorem ok_law_of {f : Addr} {fd : FuncData} (F : Fun K "_law_of" "_law_of" s__law_of f fd) (M_of : Ce P w K mg base 5 C "of" (spOf C CR)) (m_Rules : mg "Rules" = some (.ref C)) (m_len : mg "len" = none) : FnOk P w K mg base CX0 6 f fd ["some"] (spLawOf C) := by
  refine F.ok sc__law_of (fun vs H Q E h => ?_) (fun cdv A outer s H vs Q E hr h => ?_)
  · obtain ⟨v, ns, rfl, _⟩ := h
    rfl
  · obtain ⟨v, ns, rfl, hv, hns, hl, q⟩ := h
    have hu64 := hr.units
    refine ⟨_, (pss_cons (ps_if (pt_cmpR op_lt (pe_callB (call_lenK K) (by rfl) m_len PySem.boot_len (pa_cons (pv 0) pa_nil)) pe_int (nomark _))
      (pss_one (ps_ret (pe_ifExp (pt_cmpR (op_eqDK K hu64) (pv 0) (pe_lst pa_nil) (nomark _)) (pce0 (E := E0) M_of (hr.mono (by decide)) passL (pe_glob rfl m_Rules (v := .ref C) rfl)) (pce (E := E0) M_of (hr.mono (by decide)) passL (pe_glob rfl m_Rules (v := .ref C) rfl) (pa_cons (pe_ix (ix_listK K) (pv 0) pe_int (fun _ _ => rfl)) pa_nil)))))
      pss_nil)
    (pss_one (ps_ret (pe_ifExp (pt_cmpR op_eq (pe_callB (call_lenK K) (by rfl) m_len PySem.boot_len (pa_cons (pv 0) pa_nil)) pe_int (nomark _)) (pce (E := E0) M_of (hr.mono (by decide)) passL (pe_glob rfl m_Rules (v := .ref C) rfl) (pa_cons (pe_ix (ix_listK K) (pv 0) pe_int (fun _ _ => rfl)) (pa_cons (pe_ix (ix_listK K) (pv 0) pe_int (fun _ _ => rfl)) pa_nil))) (pce (E := E0) M_of (hr.mono (by decide)) passL (pe_glob rfl m_Rules (v := .ref C) rfl) (pa_cons (pe_ix (ix_listK K) (pv 0) pe_int (fun _ _ => rfl)) (pa_cons (pe_ix (ix_listK K) (pv 0) pe_int (fun _ _ => rfl)) (pa_cons (pe_ix (ix_listK K) (pv 0) pe_int (fun _ _ => rfl)) pa_nil)))))))), ?_⟩
    show tSeq _ _ _ [some v] H
    obtain ⟨a, rfl, ha⟩ := hv.rules
    refine seqi fun k0 hk0 => ?_
    walk_at "rd"
    refine ⟨_, .inl (.inl ha), ?_⟩
    have bad : ∀ H1 : Hp, BadQ CR (rS ns) H1 E0 := fun H1 => bad_none (rS_all hns)
    have h900 : (rS ns).length ≤ 900 := by
      show (ns.map rn).length ≤ 900
      rw [List.length_map]
      omega
    match ns, hl, ha, hv, hns, q, bad, h900 with
    | [], _, ha, hv, hns, q, bad, h900 =>
      refine iteT ⟨Nat.zero_le _, fun p hp => ?_⟩
      refine eq_nil (ds := []) ((same_new hp).seq (.inl (.inl ha))) .nil (by decide) upd_same ?_
      exact ⟨true, rfl, iteT ⟨[], rfl, Nat.zero_le _, good_of hns (same_new hp) q, bad _⟩⟩
    | [x], _, ha, hv, hns, q, bad, h900 =>
      refine iteT ⟨Nat.zero_le _, fun p hp => ?_⟩
      refine eq_nil (ds := [.str (rn x)]) ((same_new hp).seq (.inl (.inl ha))) (.cons (.str _) .nil) ((shp_ru hns).ok (by decide)) upd_same ?_
      refine ⟨false, rfl, iteF ⟨_, (same_new hp).seq (.inl (.inl ha)), _, rfl, ?_⟩⟩
      exact ⟨rS [x], rfl, h900, good_of hns (same_new hp) q, bad _⟩
    | [x, y], _, ha, hv, hns, q, bad, h900 =>
      refine iteF ?_
      subst hk0
      walk_at "rd"
      refine ⟨_, .inl (.inl ha), rfl, iteT ⟨_, .inl (.inl ha), _, rfl, _, .inl (.inl ha), _, rfl, ?_⟩⟩
      exact ⟨rS [x, y], rfl, h900, good_of hns (Same.refl _) q, bad _⟩
    | [x, y, z], _, ha, hv, hns, q, bad, h900 =>
      refine iteF ?_
      subst hk0
      walk_at "rd"
      refine ⟨_, .inl (.inl ha), rfl, iteF ⟨_, .inl (.inl ha), _, rfl, _, .inl (.inl ha), _, rfl, _, .inl (.inl ha), _, rfl, ?_⟩⟩
      exact ⟨rS [x, y, z], rfl, h900, good_of hns (Same.refl _) q, bad _⟩
    | _ :: _ :: _ :: _ :: _, hl, _, _, _, _, _, _ => exact absurd hl (by simp)
end
end Fp

namespace Fp
open PySem PySem.Spec PyProof.Rows L2 ClX LamX
local macro_rules | `(tactic| walk_at "rd") => `(tactic| simp only [tCMeth, rOwnLen, rOwnBool, rListKK, tLam, TTref, cxK, cxKn, tRet, tRetN, rIntI, rIntB, rLenL, rListL, rListT, rAbs, tDisp, tPairs, tC, tCB, tCons, tNil, tSl, tVar, tNoPart, tPart, rSlL, tOp, tAsg, gName, tIfS, tDrop, tTest, tAnd, tOr, Evl.tCut, tNot, tB, rI0, rI, rIxL, rIxT, rIxD, tDGet, sDPut, tLst, tTup, tBM, tBM0, tPar, rAppend, rPopAt, rPop, rExtend, rTupL, tCall, tNext, rAll, rOwnIn, rOwn2, rCat, lc_iL, lc_iT, lc_iK, lc_iR, lc_iE, fr_iL, fr_iT, fr_iR, tYes, rIn, rEq, rNe, gTup, gCons, gNil, wipe, tMeth, tFld, sFld, tMake, tProp, tIf, tAndV, tOrV, tNotV, tTru, rIsi, rSum, tRevL, rU, tUn, rIxS, iEnum, if_true, if_false, Bool.false_eq_true, List.map_cons, List.map_nil, List.nil_append, List.append_nil, List.cons_append, List.getElem?_cons_zero, List.getElem?_cons_succ, Option.some.injEq, exists_and_left, exists_eq_left', exists_eq_left, List.cons.injEq, and_true, true_and, V.ref.injEq, V.int.injEq, V.str.injEq, V.bl.injEq, List.set_cons_zero, List.set_cons_succ])
section
variable {K : PySem.W.Frag} {P : Program} {w : World} {base : Heap} {mg : Str → Option Value} {aR aD C FE CR CK : Addr} {T : Nat → Addr}
def oddD : PyData := .list (oddK.map PyData.str)
def akD : PyData := .list [ruD R9, kdsD]
theorem ak_ok : akD.showable = true ∧ akD.hasDict = false ∧ akD.depth ≤ 64 ∧ akD.shown.length ≤ 1000 := by decide +kernel
theorem kr_ok : ∀ k ∈ K13, (ruD (KR k)).showable = true ∧ (ruD (KR k)).hasDict = false ∧ (ruD (KR k)).depth ≤ 64 ∧ (ruD (KR k)).shown.length ≤ 1000 := by decide +kernel
theorem odd_ok : ∀ z ∈ oddK, OkS z := by decide +kernel
theorem ifneS {x : V} {A B : Prop} (h : B) : if (!decide (x = x)) = true then A else B := by
  rw [decide_eq_true (rfl : x = x)]
  exact iteF h
theorem gti {g : TG} {x : V} {σ : L2.St} {H : Hp} {b : L2.St → Hp → Prop} (h : ∀ k, k = b → g x σ H k) : g x σ H b := h _ rfl
theorem penx {H H' : Hp} {p c : Addr} {t : Nat} (h : PenOk H p c t) (e : ExtN H H') : PenOk H' p c t := by
  obtain ⟨cells, turn, left, h1, h2, h3, h4, h5⟩ := h.ex
  exact ⟨cells, turn, left, e _ _ h1 (fun ps z => by cases z), e _ _ h2 (fun ps z => by cases z), h3, h4, h5⟩
def tD (a z : Str) : PyData := .tuple [.str a, .str z, .bool true]
theorem tD_eqv (a z : Str) : PyData.eqv (tD a z) (tD a z) = true := by
  show ((a == a) && ((z == z) && _)) = true
  simp
  rfl
theorem tD_ok {a z : Str} (ha : OkS a) (hz : OkS z) : SeqAt.shaped (tD a z) = true := (shp_tup (n := 0) fun d hd => by
  simp only [List.mem_cons, List.not_mem_nil, or_false] at hd
  rcases hd with rfl | rfl | rfl
  · exact ⟨ha, Nat.le_refl _⟩
  · exact ⟨hz, Nat.le_refl _⟩
  · exact shp_bool true).ok (by decide)
theorem tD_dt {H : Hp} {p : Addr} {a z : Str} (h : H p = some (.tup [.str a, .str z, .bl true])) : Dt H (.ref p) (tD a z) := .tup h (.cons (.str _) (.cons (.str _) (.cons (.bl _) .nil)))
theorem kr_len : ∀ k ∈ K13, (rS (KR k)).length ≤ 900 := by decide
def spKR (TT : List (Addr × Str)) : Sp := fun vs H Q _ => ∃ p c t, vs = [.ref p] ∧ PenOk H p c t ∧ t ≤ 700000000 ∧ Tabs TT H ∧ ∀ H', PenOk H' p c (t + 1) → Tabs TT H' → Q (.bl true) H'
abbrev s__law_kinds_right : Stmt := topS 23
theorem sc__law_kinds_right : FnScope ["pen", "kind", "rules", "kinds", "seen", "odd"] ["pen"] (defScope s__law_kinds_right) := ⟨rfl, rfl, rfl, by decide +kernel, rfl, by decide +kernel, by decide +kernel⟩
theorem ok_kinds {f cL : Addr} {TT : List (Addr × Str)} {oc kV doc pm ct : Value} {od an : Option Addr} {osl : Array (Option Value)}
    (lk : K.lookup f = some ⟨oc, od, .func (PySem.W.fnOf "_law_kinds_right" "_law_kinds_right" (defArgs s__law_kinds_right) (defBody s__law_kinds_right) (defScope s__law_kinds_right) .none kV doc pm an (.ref cL) ct), osl⟩) (hcd : PySem.W.codeIn K (.ref cL) "_law_kinds_right" = true)
    (MK : Mak base mg TT (.ref cL) ("_law_kinds_right" ++ ".<locals>." ++ "<lambda>")) (TX : TxR K w mg aR aD C T) (H_nf : PySem.W.notFirst K C (.ref C) = true) (m_repr : mg "repr" = none) (m_Rules : mg "Rules" = some (.ref C)) {dvs : List V}
    (D_law_pick : Dn P w K mg base 2 "_law_pick" ["pen", "options"] spPick) (D_law_nine : Dn P w K mg base 1 "_law_nine" [] spNine) (D_law_thirteen : Dn P w K mg base 2 "_law_thirteen" [] spThir)
    (D_all_rules : Dn P w K mg base 1 "all_rules" [] spAllR) (D_all_kinds : Dn P w K mg base 1 "all_kinds" [] spAllK) (D_rules_of : De P w K mg base 3 "rules_of" ["kind"] (spRulesOfE CK))
    (N : Ke P w K mg base 3 C ["self", "names"] dvs (spIn K C CR)) (M_listed : Mn P w K mg base 1 C "listed" ["self"] (spListedN C)) (M_eq : Mn P w K mg base 1 C "__eq__" ["self", "other"] (spEq C)) (M_all_of : Ce P w K mg base 5 C "all_of" (spAllOf C CK))
    (L_ref : LcOk P w K mg base "_law_refused" (TTref CR CK)) : FnG P w K mg base CX0 9 f (PySem.W.fnOf "_law_kinds_right" "_law_kinds_right" (defArgs s__law_kinds_right) (defBody s__law_kinds_right) (defScope s__law_kinds_right) .none kV doc pm an (.ref cL) ct) ["pen"] (spKR TT) := by
  refine fnG_cd lk hcd sc__law_kinds_right (fun vs H Q E h => ?_) (fun A outer s H vs Q E hr h => ?_)
  · obtain ⟨p, c, t, rfl, _⟩ := h
    rfl
  · obtain ⟨p, c, t, rfl, hP, ht, hT, q⟩ := h
    have hu64 := hr.r.units
    refine ⟨_, (pss_cons (ps_setLc (i := 3) (own := [("kind", 1), ("rules", 2)]) rfl sc__law_kinds_right.nd rfl rfl (sw_true rfl rfl rfl (by decide +kernel)) (pi_listK K (pd0 D_law_thirteen (hr.r.mono (by decide)) (by rfl))) (blkOk_by (by kernel_rfl)) (fun _ _ _ _ _ => (pg_tupK K (pg_tup (n := 2) rfl (pgs_cons (pg_name (i := 1) sc__law_kinds_right.nd rfl (.inl rfl)) (pgs_cons (pg_name (i := 2) sc__law_kinds_right.nd rfl (.inl rfl)) pgs_nil))))) (fun _ _ _ _ _ => pts_nil) (fun _ _ _ _ _ => (pv 1)))
    (pss_cons (ps_if (pt_cmpR op_ne (pe_callB (call_reprD (K := K) hr) (by rfl) m_repr (by decide +kernel) (pa_cons (pe_lst (pa_cons (pd0 D_all_rules (hr.r.mono (by decide)) (by rfl)) (pa_cons (pd0 D_all_kinds (hr.r.mono (by decide)) (by rfl)) pa_nil))) pa_nil)) (pe_callB (call_reprD (K := K) hr) (by rfl) m_repr (by decide +kernel) (pa_cons (pe_lst (pa_cons (pd0 D_law_nine (hr.r.mono (by decide)) (by rfl)) (pa_cons (pv 3) pa_nil))) pa_nil)) (nomark _))
      (pss_one (ps_ret pe_bl))
      pss_nil)
    (pss_cons (ps_for PassesOwn.never rfl (pi_tupK K (pe_tup (pa_cons (pd0 D_all_rules (hr.r.mono (by decide)) (by rfl)) (pa_cons (pd0 D_all_kinds (hr.r.mono (by decide)) (by rfl)) pa_nil)))) (pg_name (i := 4) sc__law_kinds_right.nd rfl (.inl rfl))
      (pss_one (ps_expr (pe_bmK K (by rfl) (pe_bm PySem.F.plainAttrs_list PySem.F.slot_list_append PySem.F.type_list_append mt_append (pv 4) (pa_cons pe_str pa_nil))))))
    (pss_cons (ps_for PassesOwn.never rfl (pi_listK K (pd0 D_law_thirteen (hr.r.mono (by decide)) (by rfl))) (pg_tupK K (pg_tup (n := 2) rfl (pgs_cons (pg_name (i := 1) sc__law_kinds_right.nd rfl (.inl rfl)) (pgs_cons (pg_name (i := 2) sc__law_kinds_right.nd rfl (.inl rfl)) pgs_nil))))
      (pss_cons (ps_set (i := 4) sc__law_kinds_right.nd rfl (.inl rfl) (pde (E := E0) D_rules_of (hr.r.mono (by decide)) (by rfl) passL (pa_cons (pv 1) pa_nil)))
        (pss_cons (ps_if (PW.pt (pw_or (pt_cmpR op_ne (pe_callB (call_reprD (K := K) hr) (by rfl) m_repr (by decide +kernel) (pa_cons (pv 4) pa_nil)) (pe_callB (call_reprD (K := K) hr) (by rfl) m_repr (by decide +kernel) (pa_cons (pv 2) pa_nil)) (nomark _)) (pw_or (pt_cmpR (op_neDK K hu64) (pm0 TX.cl M_listed (hr.r.mono (by decide)) (pce (E := E0) M_all_of (hr.r.mono (by decide)) passL (pe_glob rfl m_Rules (v := .ref C) rfl) (pa_cons (pv 1) pa_nil))) (pv 2) (nomark _)) (pw_or1 (pt_not (pt_cmpR (op_ownCmp (op := .Eq) (fun _ _ => rfl) H_nf M_eq (hr.r.mono (by decide))) (pce (E := E0) M_all_of (hr.r.mono (by decide)) passL (pe_glob rfl m_Rules (v := .ref C) rfl) (pa_cons (pv 1) pa_nil)) (pke (E := E0) N (hr.r.mono (by decide)) (by rfl) m_Rules passL (pa_cons (pv 2) pa_nil)) (nomark _)))))))
      (pss_one (ps_ret pe_bl))
      pss_nil)
        (pss_one (ps_expr (pe_bmK K (by rfl) (pe_bm PySem.F.plainAttrs_list PySem.F.slot_list_append PySem.F.type_list_append mt_append (pv 4) (pa_cons pe_str pa_nil))))))))
    (pss_cons (ps_set (i := 5) sc__law_kinds_right.nd rfl (.inr rfl) (pd D_law_pick (hr.r.mono (by decide)) (by rfl) (pa_cons (pv 0) (pa_cons (pe_lst (pa_cons pe_str (pa_cons pe_str (pa_cons pe_str (pa_cons pe_str (pa_cons pe_str (pa_cons pe_str (pa_cons pe_str (pa_cons pe_str (pa_cons pe_str pa_nil)))))))))) pa_nil))))
    (pss_cons (ps_if (pt_cmpR (op_neDK K hu64) (pe_lcall (T := TT) (t := fun E => tCall (spRulesOfE CK) [] E (tCons (tVar 5) tNil)) L_ref (by rfl) MK (hr.r.mono (by decide)) rfl rfl (fun _ _ _ _ _ => rfl) (fun A outer s H E f c1 hr2 => pde (E := E) D_rules_of hr2 (by rfl) (passes_call (takes_of rfl rfl rfl rfl) fun _ _ _ _ h => h) (pa_cons (pv 5) pa_nil))) (pe_tup (pa_cons pe_str (pa_cons (pv 5) (pa_cons pe_bl pa_nil)))) (nomark _))
      (pss_one (ps_ret pe_bl))
      pss_nil)
    (pss_one (ps_ret (pe_cmpR (op_eqDK K hu64) (pe_lcall (T := TT) (t := fun E => tCMeth C (spAllOf C CK) E (tC (.ref C)) (tCons (tVar 5) tNil)) L_ref (by rfl) MK (hr.r.mono (by decide)) rfl rfl (fun _ _ _ _ _ => rfl) (fun A outer s H E f c1 hr2 => pce (E := E) M_all_of hr2 (passes_call (takes_of rfl rfl rfl rfl) fun _ _ _ _ h => h) (pe_glob rfl m_Rules (v := .ref C) rfl) (pa_cons (pv 5) pa_nil))) (pe_tup (pa_cons pe_str (pa_cons (pv 5) (pa_cons pe_bl pa_nil)))) (nomark _)))))))))), ?_⟩
    show tSeq _ _ _ [some (.ref p), none, none, none, none, none] H
    refine seqi fun k0 hk0 => ?_
    walk_at "rd"
    refine ⟨rfl, fun v2 H2 e2 h2 => ?_⟩
    obtain ⟨a2, xs2, rfl, ha2, ht2⟩ := h2.list
    refine ⟨_, rfl, ⟨_, .inl (.inl ha2)⟩, lcg_old (jseq_list K _ _) (.inl (.inl ha2)) K13 kiD ht2 (by decide) (fun _ => true) (fun k => .str (kn k)) (fun x kd hkd hx H3 e3 R1 R0 r1 r0 => ?_) (fun D3 H3 hD3 e3 hD => ?_)⟩
    · obtain ⟨xa, y1, y2, rfl, hxa, hy1, hy2⟩ := hx.pair
      walk_at "rd"
      exact ⟨_, .inl (.inl (e3 _ _ hxa)), rfl, _, _, rfl, _, _, rfl, rfl, r1 rfl _ _ (Same.refl _) hy1⟩
    have hDk : Dt H3 (.ref D3) kdsD := hD
    clear hD
    have hP3 := (hP.same e2).same e3
    have hT3 := (hT.ext e2).ext e3
    subst hk0
    refine seqi fun k0 hk0 => ?_
    walk_at "rd"
    refine ⟨rfl, fun a4 H4 n4 e4 h4 => ⟨rfl, fun a5 H5 n5 e5 h5 => ?_⟩⟩
    refine ⟨Nat.le_of_lt (small1000 (show 2 ≤ 1000 by decide)), fun l6 hl6 => ?_⟩
    have d6 : Dt (upd H5 l6 (HO.lst [.ref a4, .ref a5])) (.ref l6) akD := .lst upd_same (.cons ((h4.same e5).same (same_new hl6)) (.cons (h5.same (same_new hl6)) .nil))
    refine ⟨l6, akD, rfl, d6.dp, ak_ok.1, ak_ok.2.1, ak_ok.2.2.1, Nat.le_trans ak_ok.2.2.2 (by decide), ?_⟩
    refine ⟨rfl, fun v7 H7 e7 h7 => ?_⟩
    refine ⟨Nat.le_of_lt (small1000 (show 2 ≤ 1000 by decide)), fun l8 hl8 => ?_⟩
    have s37 : Same H3 H7 := ((e4.trans e5).trans (same_new hl6)).trans e7
    have d8 : Dt (upd H7 l8 (HO.lst [v7, .ref D3])) (.ref l8) akD := .lst upd_same (.cons (h7.same (same_new hl8)) (.cons ((hDk.same s37).same (same_new hl8)) .nil))
    refine ⟨l8, akD, rfl, d8.dp, ak_ok.1, ak_ok.2.1, ak_ok.2.2.1, Nat.le_trans ak_ok.2.2.2 (by decide), rfl, ifneS ?_⟩
    have s38 := s37.trans (same_new (o := HO.lst [v7, .ref D3]) hl8)
    have hP8 := hP3.same s38
    have hT8 := hT3.ext s38
    generalize upd H7 l8 (HO.lst [v7, .ref D3]) = H8 at hP8 hT8
    clear d6 d8 s37 s38 h7 h4 h5 hl6 hl8 e7 hP3 hT3 hDk e3 e2 hP hT
    subst hk0
    refine seqi fun k0 hk0 => ?_
    walk_at "rd"
    refine ⟨rfl, fun a9 H9 n9 e9 h9 => ⟨rfl, fun a10 H10 n10 e10 h10 => ?_⟩⟩
    refine ⟨Nat.le_of_lt (small1000 (show 2 ≤ 1000 by decide)), fun l11 hl11 => ⟨⟨_, .inl (.inl upd_same)⟩, ?_⟩⟩
    obtain ⟨b9, eb9, hb9⟩ := h9.rules
    cases eb9
    obtain ⟨b10, x10, eb10, hb10, hx10⟩ := h10.list
    cases eb10
    have n910 : a9 ≠ a10 := fun z => by
      rw [z, n10] at hb9
      cases hb9
    obtain ⟨kvs8, hp8⟩ := hP8.dict
    obtain ⟨cxs8, hc8⟩ := hP8.cells
    have p9 : a9 ≠ p := (ne_of_none hp8 n9).symm
    have c9 : a9 ≠ c := (ne_of_none hc8 n9).symm
    have p10 : a10 ≠ p := (ne_of_none (e9 _ _ hp8) n10).symm
    have c10 : a10 ≠ c := (ne_of_none (e9 _ _ hc8) n10).symm
    have s11 := (e9.trans e10).trans (same_new (o := HO.tup [V.ref a9, V.ref a10]) hl11)
    have t9 : a9 ≠ l11 := ne_of_none (e10 _ _ hb9) hl11
    have t10 : a10 ≠ l11 := ne_of_none hb10 hl11
    refine forg_by (jseq_tup K l11 [.ref a9, .ref a10]) (fun i σ' H' => ∃ y x9 x10, σ' = [some (.ref p), none, none, some (.ref D3), y, none] ∧ H' a9 = some (.lst x9) ∧ x9.length ≤ 100 + i ∧ H' a10 = some (.lst x10) ∧ x10.length ≤ 100 + i ∧ H' l11 = some (.tup [.ref a9, .ref a10]) ∧ PenOk H' p c t ∧ Tabs TT H' ∧ i ≤ 2)
      ⟨none, _, _, rfl, by rw [upd_ne t9]; exact e10 _ _ hb9, by decide, by rw [upd_ne t10]; exact hb10, by rw [hx10.len]; decide, upd_same, hP8.same s11, hT8.ext s11, by decide⟩
      (fun i σ' H' _ h => by obtain ⟨_, _, _, _, _, _, _, _, h, _⟩ := h; exact .inl (.inl h)) (fun i x σ' H' hx h => ?_) (fun σ' H' h => ?_)
    · obtain ⟨y, x9, x10, rfl, g9, l9, g10, l10, gt, gP, gT, hi⟩ := h
      have big : 1000 < sizeLine := small1000 (by decide)
      match i, hi, hx, l9, l10 with
      | 0, _, hx, l9, l10 =>
        cases hx
        walk_at "rd"
        refine ⟨.inl ⟨rfl, _, .inl (.inl g9)⟩, _, g9, by omega, _, upd_same, ?_, _, by rw [upd_ne n910.symm]; exact g10, by omega, by rw [upd_ne t9.symm]; exact gt, gP.mut p9 c9, tabs_lst g9 gT, by decide⟩
        rw [List.length_append]
        show x9.length + 1 ≤ _
        omega
      | 1, _, hx, l9, l10 =>
        cases hx
        walk_at "rd"
        refine ⟨.inl ⟨rfl, _, .inl (.inl g10)⟩, _, g10, by omega, _, by rw [upd_ne n910]; exact g9, by omega, _, upd_same, ?_, by rw [upd_ne t10.symm]; exact gt, gP.mut p10 c10, tabs_lst g10 gT, by decide⟩
        rw [List.length_append]
        show x10.length + 1 ≤ _
        omega
      | 2, _, hx, _, _ => cases hx
    · obtain ⟨y, x9, x10, rfl, _, _, _, _, _, gP, gT, _⟩ := h
      clear hb9 hb10 hx10 s11 t9 t10 n9 n10 e9 e10 h9 h10 hl11 p9 c9 p10 c10 hp8 hc8 hP8 hT8
      subst hk0
      dsimp only
      refine seqi fun k0 hk0 => ?_
      walk_at "rd"
      refine ⟨rfl, fun v12 H12 e12 h12 => ?_⟩
      obtain ⟨a12, xs12, rfl, ha12, ht12⟩ := h12.list
      have gP2 := gP.same e12
      have gT2 := gT.ext e12
      refine ⟨_, rfl, ⟨_, .inl (.inl ha12)⟩, ?_⟩
      refine forg_by (jseq_list K a12 xs12) (fun i σ' H' => ∃ y1 y2 y4, σ' = [some (.ref p), y1, y2, some (.ref D3), y4, none] ∧ Same H12 H')
        ⟨none, none, y, rfl, Same.refl _⟩ (fun i σ' H' _ h => by obtain ⟨_, _, _, _, h⟩ := h; exact .inl (.inl (h _ _ ha12))) (fun i x σ' H' hx h => ?_) (fun σ' H' h => ?_)
      · obtain ⟨y1, y2, y4, rfl, hs⟩ := h
        obtain ⟨k, hk, hxk⟩ : ∃ k, k ∈ K13 ∧ Dt H12 x (kiD k) := by
          have hi : i < 13 := by
            have := (List.getElem?_eq_some_iff.mp hx).1
            rw [ht12.len] at this
            exact this
          obtain ⟨v, hv, hd⟩ := ht12.get (i := i) (d := kiD (K13[i])) (by rw [List.getElem?_map, List.getElem?_eq_getElem hi]; rfl)
          rw [hx] at hv
          cases hv
          exact ⟨_, List.getElem_mem hi, hd⟩
        obtain ⟨xa, w1, w2, rfl, hxa, hw1, hw2⟩ := hxk.pair
        obtain rfl := hw1.txt
        refine gti fun kb hkb => ?_
        walk_at "rd"
        refine ⟨_, .inl (.inl (hs _ _ hxa)), rfl, _, _, rfl, _, _, rfl, rfl, ?_⟩
        subst hkb
        dsimp only
        refine seqi fun k1 hk1 => ?_
        walk_at "rd"
        refine ⟨kn k, rfl, .inl ⟨k, hk, rfl, fun a20 H20 n20 e20 h20 => ?_⟩⟩
        have hs20 := hs.trans e20
        subst hk1
        refine seqi fun k1 hk1 => ?_
        walk_at "rd"
        have hw20 : Dt H20 w2 (ruD (KR k)) := hw2.same hs20
        obtain ⟨r1, r2, r3, r4⟩ := kr_ok k hk
        have big : 1000 ≤ sizeLine := by decide
        obtain ⟨aw, rfl, haw⟩ := hw20.rules
        refine ⟨a20, ruD (KR k), rfl, h20.dp, r1, r2, r3, Nat.le_trans r4 big, aw, ruD (KR k), rfl, hw20.dp, r1, r2, r3, Nat.le_trans r4 big, rfl, ifneS ?_⟩
        refine ⟨kn k, rfl, .inl ⟨k, hk, rfl, fun p21 H21 e21 r21 => ?_⟩⟩
        obtain ⟨dx21, t21, g1, g2⟩ := id r21
        refine ⟨p21, rfl, dx21, _, g1, rFl_no _ _ _ (by decide +kernel) (by decide +kernel), p21, KR k, rfl, r21, fun a22 H22 n22 e22 h22 => ?_⟩
        have e2022 := e21.trans e22
        refine ⟨ruD (KR k), ruD (KR k), h22.dp, (hw20.same e2022).dp, (shp_ru (KR_in k hk)).ok (by decide), (shp_ru (KR_in k hk)).ok (by decide), ?_⟩
        rw [eqv_ru (KR_in k hk) (KR_in k hk), decide_eq_true rfl]
        refine ⟨_, rfl, iteF ?_⟩
        refine ⟨kn k, rfl, .inl ⟨k, hk, rfl, fun p23 H23 e23 r23 => ?_⟩⟩
        have e2023 := e2022.trans e23
        refine mk_newA (zs := rS (KR k)) (.inl (.inl (.inl (e2023 _ _ haw)))) (kr_len k hk) (fun _ p24 H24 e24 r24 => ?_) (bad_none (rS_all (KR_in k hk)))
        rw [KR_names hk] at r24
        have r23' := r23.same e24
        obtain ⟨dx23, t23, g3, g4⟩ := id r23'
        obtain ⟨dx24, t24, g5, g6⟩ := id r24
        refine ⟨p23, rfl, dx23, _, g3, dx24, _, g5, p23, KR k, p24, KR k, rfl, r23', r24, KR_in k hk, KR_in k hk, fun H25 e25 => ?_⟩
        refine ⟨_, rfl, ?_⟩
        rw [decide_eq_true (rfl : KR k = KR k)]
        refine iteF ?_
        obtain ⟨b20, eb20, hb20⟩ := h20.rules
        cases eb20
        have e2025 := (e2023.trans e24).trans e25
        have h12n : H12 a20 = none := hs.free n20
        subst hk1
        walk_at "rd"
        refine ⟨.inl ⟨rfl, _, .inl (.inl (e2025 _ _ hb20))⟩, _, e2025 _ _ hb20, ?_, _, _, _, ⟨rfl, rfl, rfl⟩, Same.mut (hs20.trans e2025) h12n⟩
        rw [List.length_map]
        exact small1000 (Nat.le_trans (kr_len k hk) (by decide))
      · obtain ⟨y1, y2, y4, rfl, hs⟩ := h
        subst hk0
        dsimp only
        refine seqi fun k0 hk0 => ?_
        walk_at "rd"
        refine ⟨Nat.le_of_lt (small1000 (show 9 ≤ 1000 by decide)), fun l13 hl13 => ?_⟩
        have hP13 := (gP2.same hs).same (same_new (o := HO.lst [V.str "", V.str "tree", V.str "Trees", V.str "trees ", V.str "grouping", V.str "keep", V.str "none", V.str "ones", V.str "rules"]) hl13)
        have hT13 := (gT2.ext hs).ext (same_new (o := HO.lst [V.str "", V.str "tree", V.str "Trees", V.str "trees ", V.str "grouping", V.str "keep", V.str "none", V.str "ones", V.str "rules"]) hl13)
        refine ⟨p, c, .ref l13, t, oddK.map PyData.str, rfl, hP13, by omega, .lst upd_same (dts_strs oddK), by decide, by decide, fun v14 H14 d14 hd14 h14 P14 b14 => ?_⟩
        obtain ⟨z, hz, rfl⟩ := List.mem_map.mp hd14
        obtain rfl := h14.txt
        obtain ⟨kvs13, hp13⟩ := hP13.dict
        have T14 := tabs_but hp13 b14 hT13
        subst hk0
        refine seqi fun k0 hk0 => ?_
        walk_at "rd"
        refine ⟨T14, fun H15 x15 T15 => ?_⟩
        refine ⟨z, rfl, .inr ⟨hz, fun d16 H16 n16 e16 h16 => ?_⟩⟩
        refine ⟨d16, .str z, "kind", rfl, h16, .inr ⟨rfl, rfl⟩, fun p17 hp17 => ?_⟩
        refine ⟨Nat.le_of_lt (small1000 (show 3 ≤ 1000 by decide)), fun p18 hp18 => ?_⟩
        have okz : OkS z := odd_ok z hz
        have okk : OkS ("kind" : Str) := by decide +kernel
        have s17 := same_new (o := HO.tup [V.str "kind", V.str z, V.bl true]) hp17
        have s18 := same_new (o := HO.tup [V.str "kind", V.str z, V.bl true]) hp18
        refine ⟨tD "kind" z, tD "kind" z, (tD_dt (s18 _ _ upd_same)).dp, (tD_dt upd_same).dp, tD_ok okk okz, tD_ok okk okz, ?_⟩
        rw [tD_eqv]
        refine ⟨_, rfl, iteF ?_⟩
        have P18 := (((penx P14 x15).same e16).same s17).same s18
        have T18 := ((T15.ext e16).ext s17).ext s18
        subst hk0
        walk_at "rd"
        refine ⟨T18, fun H19 x19 T19 => ?_⟩
        refine ⟨z, rfl, .inr ⟨hz, fun d20 H20 n20 e20 h20 => ?_⟩⟩
        refine ⟨d20, .str z, "kind", rfl, h20, .inr ⟨rfl, rfl⟩, fun p21 hp21 => ?_⟩
        refine ⟨Nat.le_of_lt (small1000 (show 3 ≤ 1000 by decide)), fun p22 hp22 => ?_⟩
        have s21 := same_new (o := HO.tup [V.str "kind", V.str z, V.bl true]) hp21
        have s22 := same_new (o := HO.tup [V.str "kind", V.str z, V.bl true]) hp22
        refine ⟨tD "kind" z, tD "kind" z, (tD_dt (s22 _ _ upd_same)).dp, (tD_dt upd_same).dp, tD_ok okk okz, tD_ok okk okz, ?_⟩
        rw [tD_eqv]
        exact q _ ((((penx P18 x19).same e20).same s21).same s22) (((T19.ext e20).ext s21).ext s22)
end
end Fp

namespace Fp
open PySem PySem.Spec PyProof.Rows L2 ClX LamX
local macro_rules | `(tactic| walk_at "rd") => `(tactic| simp only [tCMeth, rOwnNe, rListKK, tLam, TTref, cxK, cxKn, tRet, tRetN, rIntI, rIntB, rLenL, rListL, rListT, rAbs, tDisp, tPairs, tC, tCB, tCons, tNil, tSl, tVar, tNoPart, tPart, rSlL, tOp, tAsg, gName, tIfS, tDrop, tTest, tAnd, tOr, Evl.tCut, tNot, tB, rI0, rI, rIxL, rIxT, rIxD, tDGet, sDPut, tLst, tTup, tBM, tBM0, tPar, rAppend, rPopAt, rPop, rExtend, rTupL, tCall, tNext, rAll, rOwnIn, rOwn2, rCat, lc_iL, lc_iT, lc_iK, lc_iR, lc_iE, fr_iL, fr_iT, fr_iR, tYes, rIn, rEq, rNe, gTup, gCons, gNil, wipe, tMeth, tFld, sFld, tMake, tProp, tIf, tAndV, tOrV, tNotV, tTru, rIsi, rSum, tRevL, rU, tUn, rIxS, iEnum, if_true, if_false, Bool.false_eq_true, List.map_cons, List.map_nil, List.nil_append, List.append_nil, List.cons_append, List.getElem?_cons_zero, List.getElem?_cons_succ, Option.some.injEq, exists_and_left, exists_eq_left', exists_eq_left, List.cons.injEq, and_true, true_and, V.ref.injEq, V.int.injEq, V.str.injEq, V.bl.injEq, List.set_cons_zero, List.set_cons_succ])
section
variable {K : PySem.W.Frag} {P : Program} {w : World} {base : Heap} {mg : Str → Option Value} {aR aD C FE CR CK : Addr} {T : Nat → Addr}
def oddR : List Str := ["", "sets", "First", "orders", "x", "keep "]
theorem oddR_no : ∀ z ∈ oddR, z ∉ rS R9 := by decide +kernel
theorem oddR_ok : ∀ z ∈ oddR, OkS z := by decide +kernel
/-- the rules with these names, in their order -/
def srt (ns : List Nat) : List Nat := R9.filter fun i => decide (i ∈ ns)
theorem ru_mut {H : Hp} {a : Addr} {o : HO} {v : V} {l : List Nat} (h : Dt H v (ruD l)) (n : v ≠ .ref a) : Dt (upd H a o) v (ruD l) := by
  obtain ⟨b, rfl, hb⟩ := h.rules
  rw [ruD_eq]
  exact .lst (by rw [upd_ne (fun z => n (by rw [z]))]; exact hb) (dts_strs _)
theorem RuAt.mutl {H : Hp} {C a q : Addr} {o : HO} {xs : List V} {s : List Nat} (ha : H a = some (.lst xs)) (h : RuAt H C q s) : RuAt (upd H a o) C q s := by
  obtain ⟨dx, t, h1, h2⟩ := h
  exact ⟨dx, t, by rw [upd_ne (ne_of h1 ha (by intro z; cases z))]; exact h1, by rw [upd_ne (ne_of h2 ha (by intro z; cases z))]; exact h2⟩
theorem srt_in {ns : List Nat} : ∀ n ∈ srt ns, n ∈ R9 := fun n hn => (List.mem_filter.mp hn).1
theorem srt_srt {ns : List Nat} : srt (srt ns) = srt ns := List.filter_congr fun i hi => by
  cases h : decide (i ∈ ns) with
  | true => exact decide_eq_true (List.mem_filter.mpr ⟨hi, h⟩)
  | false => exact decide_eq_false fun z => absurd (List.mem_filter.mp z).2 (by rw [h]; decide)
theorem srt_len {ns : List Nat} : (srt ns).length ≤ 9 := List.length_filter_le _ _
theorem srt_mem {ns : List Nat} (h : ∀ n ∈ ns, n ∈ R9) {n : Nat} : n ∈ srt ns ↔ n ∈ ns := ⟨fun z => of_decide_eq_true (List.mem_filter.mp z).2, fun z => List.mem_filter.mpr ⟨h n z, decide_eq_true z⟩⟩
theorem from_le : ∀ (ts : List Str) (k : Nat) (acc : Str), (∀ t ∈ ts, t.length ≤ 40) → (textFrom k acc ts).length ≤ acc.length + 42 * ts.length
  | [], k, acc, _ => by
    show acc.length ≤ _
    omega
  | t :: r, k, acc, h => by
    have ih := from_le r (k + 1) (acc ++ (if k > 0 then ", " else "" : String) ++ t) fun x hx => h x (List.mem_cons_of_mem _ hx)
    have h1 := h t List.mem_cons_self
    have h2 : (((if k > 0 then ", " else "" : String) : Str)).length ≤ 2 := by
      split <;> decide
    rw [Str.length_append, Str.length_append] at ih
    show (textFrom (k + 1) _ r).length ≤ _
    rw [List.length_cons]
    omega
theorem rn_show : ∀ i ∈ R9, (PyData.str (rn i)).shown.length ≤ 40 := by decide +kernel
theorem ru_shown : ∀ {l : List Nat}, (∀ j ∈ l, j ∈ R9) → (∀ t ∈ PyData.shownAll (l.map fun i => PyData.str (rn i)), t.length ≤ 40) ∧ PyData.showableAll (l.map fun i => PyData.str (rn i)) = true ∧ (PyData.shownAll (l.map fun i => PyData.str (rn i))).length = l.length
  | [], _ => ⟨(fun _ h => nomatch h), rfl, rfl⟩
  | x :: r, h => by
    obtain ⟨h1, h2, h3⟩ := ru_shown (l := r) fun j hj => h j (List.mem_cons_of_mem _ hj)
    refine ⟨fun t ht => ?_, ?_, ?_⟩
    · rw [List.map_cons, PyData.shownAll] at ht
      rcases List.mem_cons.mp ht with rfl | ht
      · exact rn_show x (h x List.mem_cons_self)
      · exact h1 t ht
    · rw [List.map_cons, PyData.showableAll, h2]
      rfl
    · rw [List.map_cons, PyData.shownAll, List.length_cons, List.length_cons, h3]
theorem ru_show {l : List Nat} (h : ∀ j ∈ l, j ∈ R9) (hl : l.length ≤ 9) : (ruD l).showable = true ∧ (ruD l).hasDict = false ∧ (ruD l).depth ≤ 64 ∧ (ruD l).shown.length ≤ 1000 := by
  obtain ⟨h1, h2, h3⟩ := ru_shown h
  refine ⟨h2, PyData.hasDict_of_canLay _ (shp_ru h).1, Nat.le_trans (shp_ru h).2 (by decide), ?_⟩
  have h4 := from_le _ 0 "[" h1
  have e : (ruD l).shown.length = (textFrom 0 "[" (PyData.shownAll (l.map fun i => PyData.str (rn i)))).length + 1 := by
    show (textFrom 0 "[" (PyData.shownAll (l.map fun i => PyData.str (rn i))) ++ "]").length = _
    rw [Str.length_append]
    rfl
  rw [h3] at h4
  have h5 : ("[" : Str).length = 1 := rfl
  omega
theorem esrt {l : List Nat} (h : ∀ n ∈ l, n ∈ R9) : (R9.filter fun i => decide (rn i ∈ rS l)) = srt l := List.filter_congr fun n hn => decide_eq_decide.mpr (iff_of_eq (mem_rS hn h))
theorem esrtR {l : List Nat} (h : ∀ n ∈ l, n ∈ R9) : (R9.filter fun i => decide (rn i ∈ (rS l).reverse)) = srt l := List.filter_congr fun n hn => decide_eq_decide.mpr (List.mem_reverse.trans (iff_of_eq (mem_rS hn h)))
theorem rS_len (l : List Nat) : (rS l).length = l.length := List.length_map _
theorem few_eq : ∀ {ns : List Nat}, ns.Nodup → (∀ n ∈ ns, n ∈ R9) → decide (srt (ns.take 3) = srt ns) = decide ((ns.take 3).length = ns.length)
  | [], _, _ => by decide
  | [_], _, _ => by rw [List.take_of_length_le (by simp), decide_eq_true rfl, decide_eq_true rfl]
  | [_, _], _, _ => by rw [List.take_of_length_le (by simp), decide_eq_true rfl, decide_eq_true rfl]
  | [_, _, _], _, _ => by rw [List.take_of_length_le (by simp), decide_eq_true rfl, decide_eq_true rfl]
  | a :: b :: c :: d :: r, hnd, hns => by
    have h1 : ¬ (srt ((a :: b :: c :: d :: r).take 3) = srt (a :: b :: c :: d :: r)) := fun h => by
      have hd : d ∈ srt (a :: b :: c :: d :: r) := (srt_mem hns).mpr (by simp)
      rw [← h] at hd
      have hd2 : d ∈ [a, b, c] := (srt_mem fun n hn => hns n (List.mem_of_mem_take (i := 3) hn)).mp hd
      simp only [List.mem_cons, List.not_mem_nil, or_false] at hd2
      rcases hd2 with rfl | rfl | rfl <;> simp at hnd
    have h2 : ¬ (((a :: b :: c :: d :: r).take 3).length = (a :: b :: c :: d :: r).length) := by
      simp only [List.length_take, List.length_cons]
      omega
    rw [decide_eq_false h1, decide_eq_false h2]
theorem first_bad {A B : List Str} {z z' : Str} {i : Nat} (hA : ∀ y ∈ A, y ∈ rS R9) (hz : z ∉ rS R9) (h : (A ++ z :: B)[i]? = some z') (hn : z' ∉ rS R9) (hp : ∀ (j : Nat) (y : Str), j < i → (A ++ z :: B)[j]? = some y → y ∈ rS R9) : z' = z := by
  rcases Nat.lt_trichotomy i A.length with hi | hi | hi
  · rw [List.getElem?_append_left hi] at h
    exact absurd (hA z' (List.mem_of_getElem? h)) hn
  · rw [List.getElem?_append_right (Nat.le_of_eq hi.symm), hi, Nat.sub_self] at h
    exact (Option.some.inj h).symm
  · refine absurd (hp A.length z hi ?_) hz
    rw [List.getElem?_append_right (Nat.le_refl _), Nat.sub_self]
    rfl
def spLawK (K : PySem.W.Frag) (TT : List (Addr × Str)) : Sp := fun vs H Q _ => ∃ (a : Addr) (ns : List Int), vs = [.ref a] ∧ SqL K H a (ns.map V.int) ∧ ns.length ≤ 63 ∧ Tabs TT H ∧ ∀ H', Q (.bl true) H'
abbrev s_law : Stmt := topS 25
theorem sc_law : FnScope ["script", "pen", "turn", "some", "due", "handed", "made", "again", "seen", "few", "at", "bent", "kept", "odd", "rule"] ["script"] (defScope s_law) := ⟨rfl, rfl, rfl, by decide +kernel, rfl, by decide +kernel, by decide +kernel⟩
theorem ok_law {f cL : Addr} {TT : List (Addr × Str)} {oc kV doc pm ct : Value} {od an : Option Addr} {osl : Array (Option Value)}
    (lk : K.lookup f = some ⟨oc, od, .func (PySem.W.fnOf "law" "law" (defArgs s_law) (defBody s_law) (defScope s_law) .none kV doc pm an (.ref cL) ct), osl⟩) (hcd : PySem.W.codeIn K (.ref cL) "law" = true)
    (MK : Mak base mg TT (.ref cL) ("law" ++ ".<locals>." ++ "<lambda>")) (TX : TxR K w mg aR aD C T) (H_nf : PySem.W.notFirst K C (.ref C) = true) (H_ne : PySem.W.findIn K (.ref C) "__ne__" = some (some (.builtin "object.__ne__"))) (H_ob : PySem.W.mroIn K C (.type "object") = some true) (m_repr : mg "repr" = none) (m_Rules : mg "Rules" = some (.ref C)) (m_len : mg "len" = none) (m_list : mg "list" = none) (m_tuple : mg "tuple" = none) (m_bool : mg "bool" = none) (m_range : mg "range" = none)
    (D_law_pen : Dn P w K mg base 1 "_law_pen" ["script"] (spPen K)) (D_law_draw : Dn P w K mg base 1 "_law_draw" ["pen", "span"] spDraw) (D_law_pick : Dn P w K mg base 2 "_law_pick" ["pen", "options"] spPick) (D_law_shuffled : Dn P w K mg base 2 "_law_shuffled" ["pen", "items"] spShufN)
    (D_law_few : Dn P w K mg base 2 "_law_few" ["pen", "items", "span"] spFew) (D_law_nine : Dn P w K mg base 1 "_law_nine" [] spNine) (D_law_of : Dn P w K mg base 6 "_law_of" ["some"] (spLawOf C)) (D_law_kinds_right : DnG P w K mg base 9 "_law_kinds_right" ["pen"] (spKR TT))
    {da : Addr} (N : Ke P w K mg base 3 C ["self", "names"] [.ref da] (spIn K C CR)) (hda : ∀ H, SqT K H da []) (M_listed : Mn P w K mg base 1 C "listed" ["self"] (spListedN C)) (M_eq : Mn P w K mg base 1 C "__eq__" ["self", "other"] (spEq C)) (M_len : Mn P w K mg base 1 C "__len__" ["self"] (spLen C)) (M_bool : Mn P w K mg base 1 C "__bool__" ["self"] (spBool C)) (M_of : Ce P w K mg base 5 C "of" (spOf C CR))
    (L_ref : LcOk P w K mg base "_law_refused" (TTref CR CK)) : FnG P w K mg base CX0 10 f (PySem.W.fnOf "law" "law" (defArgs s_law) (defBody s_law) (defScope s_law) .none kV doc pm an (.ref cL) ct) ["script"] (spLawK K TT) := by
  refine fnG_cd lk hcd sc_law (fun vs H Q E h => ?_) (fun A outer s H vs Q E hr h => ?_)
  · obtain ⟨a, ns, rfl, _⟩ := h
    rfl
  · obtain ⟨a, ns, rfl, hS, hlen, hT, q⟩ := h
    have hu64 := hr.r.units
    refine ⟨_, (pss_cons (ps_set (i := 1) sc_law.nd rfl (.inl rfl) (pd D_law_pen (hr.r.mono (by decide)) (by rfl) (pa_cons (pv 0) pa_nil)))
    (pss_cons (ps_for PassesOwn.never rfl (pi_range1 rfl m_range (pa_cons pe_int pa_nil)) (pg_name (i := 2) sc_law.nd rfl (.inl rfl))
      (pss_cons (ps_if (pt_not (pt_val (pdG D_law_kinds_right (hr.mono (by decide)) (by rfl) (pa_cons (pv 1) pa_nil))))
      (pss_one (ps_ret pe_bl))
      pss_nil)
        (pss_cons (ps_set (i := 3) sc_law.nd rfl (.inr rfl) (pd D_law_few (hr.r.mono (by decide)) (by rfl) (pa_cons (pv 1) (pa_cons (pd0 D_law_nine (hr.r.mono (by decide)) (by rfl)) (pa_cons (pd D_law_draw (hr.r.mono (by decide)) (by rfl) (pa_cons (pv 1) (pa_cons pe_int pa_nil))) pa_nil)))))
        (pss_cons (ps_setLc (i := 4) (own := [("rule", 14)]) rfl sc_law.nd rfl rfl (sw_true rfl rfl rfl (by decide +kernel)) (pi_listK K (pd0 D_law_nine (hr.r.mono (by decide)) (by rfl))) (blkOk_by (by kernel_rfl)) (fun _ _ _ _ _ => (pg_name (i := 14) sc_law.nd rfl (.inl rfl))) (fun _ _ _ _ _ => pts_one (pt_cmpR (op_inK K) (pv 14) (pv 3) rfl)) (fun _ _ _ _ _ => (pv 14)))
        (pss_cons (ps_set (i := 5) sc_law.nd rfl (.inl rfl) (pd D_law_shuffled (hr.r.mono (by decide)) (by rfl) (pa_cons (pv 1) (pa_cons (pe_op op_cat (pv 3) (pe_slice (sl_listK K) (pv 3) po_none (po_some (pd D_law_draw (hr.r.mono (by decide)) (by rfl) (pa_cons (pv 1) (pa_cons pe_int pa_nil)))))) pa_nil))))
        (pss_cons (ps_set (i := 12) sc_law.nd rfl (.inr rfl) (pe_callTy (call_listK K) (by rfl) m_list (by decide +kernel) (pa_cons (pv 5) pa_nil)))
        (pss_cons (ps_set (i := 6) sc_law.nd rfl (.inl rfl) (pke (E := E0) N (hr.r.mono (by decide)) (by rfl) m_Rules passL (pa_cons (pe_ifExp (pt_cmpR op_eq (pd D_law_draw (hr.r.mono (by decide)) (by rfl) (pa_cons (pv 1) (pa_cons pe_int pa_nil))) pe_int (nomark _)) (pv 5) (pe_callTy (call_tupleK K) (by rfl) m_tuple (by decide +kernel) (pa_cons (pv 5) pa_nil))) pa_nil)))
        (pss_cons (ps_if (pt_cmpR (op_neDK K hu64) (pv 5) (pv 12) (nomark _))
      (pss_one (ps_ret pe_bl))
      pss_nil)
        (pss_cons (ps_expr (pe_bm0K K (by rfl) (pe_bm0 PySem.F.plainAttrs_list PySem.F.slot_list_clear PySem.F.type_list_clear mt_clear (pv 5))))
        (pss_cons (ps_for PassesOwn.never rfl (pi_range1 rfl m_range (pa_cons pe_int pa_nil)) (pg_name (i := 7) sc_law.nd rfl (.inl rfl))
      (pss_cons (ps_set (i := 8) sc_law.nd rfl (.inl rfl) (pm0 TX.cl M_listed (hr.r.mono (by decide)) (pv 6)))
        (pss_cons (ps_if (PW.pt (pw_or (pt_cmpR op_ne (pe_callB (call_reprD (K := K) hr) (by rfl) m_repr (by decide +kernel) (pa_cons (pv 8) pa_nil)) (pe_callB (call_reprD (K := K) hr) (by rfl) m_repr (by decide +kernel) (pa_cons (pv 4) pa_nil)) (nomark _)) (pw_or (pt_cmpR op_ne (pe_callB (call_ownLen M_len (hr.r.mono (by decide))) (by rfl) m_len PySem.boot_len (pa_cons (pv 6) pa_nil)) (pe_callB (call_lenK K) (by rfl) m_len PySem.boot_len (pa_cons (pv 4) pa_nil)) (nomark _)) (pw_or1 (pt_cmpR op_ne (pe_callTy (call_ownBool M_bool (hr.r.mono (by decide))) (by rfl) m_bool (by decide +kernel) (pa_cons (pv 6) pa_nil)) (pe_cmpR (op_neDK K hu64) (pv 4) (pe_lst pa_nil) (nomark _)) (nomark _))))))
      (pss_one (ps_ret pe_bl))
      pss_nil)
        (pss_one (ps_expr (pe_bmK K (by rfl) (pe_bm PySem.F.plainAttrs_list PySem.F.slot_list_append PySem.F.type_list_append mt_append (pv 8) (pa_cons pe_str pa_nil))))))))
        (pss_cons (ps_if (PW.pt (pw_or (pt_not (pt_cmpR (op_ownCmp (op := .Eq) (fun _ _ => rfl) H_nf M_eq (hr.r.mono (by decide))) (pv 6) (pke (E := E0) N (hr.r.mono (by decide)) (by rfl) m_Rules passL (pa_cons (pv 4) pa_nil)) (nomark _))) (pw_or (pt_cmpR (op_ownNe H_ne H_ob M_eq (hr.r.mono (by decide))) (pv 6) (pke (E := E0) N (hr.r.mono (by decide)) (by rfl) m_Rules passL (pa_cons (pe_revK (K := K) (pv 4)) pa_nil)) (nomark _)) (pw_or (pt_not (pt_cmpR (op_ownCmp (op := .Eq) (fun _ _ => rfl) H_nf M_eq (hr.r.mono (by decide))) (pke0 (E := E0) N (hr.r.mono (by decide)) (by rfl) m_Rules passL) (pke (E := E0) N (hr.r.mono (by decide)) (by rfl) m_Rules passL (pa_cons (pe_lst pa_nil) pa_nil)) (nomark _))) (pw_or1 (pt_cmpR (op_neDK K hu64) (pm0 TX.cl M_listed (hr.r.mono (by decide)) (pke0 (E := E0) N (hr.r.mono (by decide)) (by rfl) m_Rules passL)) (pe_lst pa_nil) (nomark _)))))))
      (pss_one (ps_ret pe_bl))
      pss_nil)
        (pss_cons (ps_set (i := 9) sc_law.nd rfl (.inl rfl) (pe_slice (sl_listK K) (pv 3) po_none (po_some pe_int)))
        (pss_cons (ps_if (PW.pt (pw_or (pt_not (pt_cmpR (op_ownCmp (op := .Eq) (fun _ _ => rfl) H_nf M_eq (hr.r.mono (by decide))) (pd D_law_of (hr.r.mono (by decide)) (by rfl) (pa_cons (pv 9) pa_nil)) (pke (E := E0) N (hr.r.mono (by decide)) (by rfl) m_Rules passL (pa_cons (pv 9) pa_nil)) (nomark _))) (pw_or1 (pt_cmpR op_ne (pe_cmpR (op_ownCmp (op := .Eq) (fun _ _ => rfl) H_nf M_eq (hr.r.mono (by decide))) (pke (E := E0) N (hr.r.mono (by decide)) (by rfl) m_Rules passL (pa_cons (pv 9) pa_nil)) (pv 6) (nomark _)) (pe_cmpR op_eq (pe_callB (call_lenK K) (by rfl) m_len PySem.boot_len (pa_cons (pv 9) pa_nil)) (pe_callB (call_lenK K) (by rfl) m_len PySem.boot_len (pa_cons (pv 3) pa_nil)) (nomark _)) (nomark _)))))
      (pss_one (ps_ret pe_bl))
      pss_nil)
        (pss_cons (ps_asg (pe_tup (pa_cons (pd D_law_draw (hr.r.mono (by decide)) (by rfl) (pa_cons (pv 1) (pa_cons (pe_op op_add (pe_callB (call_lenK K) (by rfl) m_len PySem.boot_len (pa_cons (pv 12) pa_nil)) pe_int) pa_nil))) (pa_cons (pd D_law_pick (hr.r.mono (by decide)) (by rfl) (pa_cons (pv 1) (pa_cons (pe_lst (pa_cons pe_str (pa_cons pe_str (pa_cons pe_str (pa_cons pe_str (pa_cons pe_str (pa_cons pe_str pa_nil))))))) pa_nil))) pa_nil))) (pg_tupK K (pg_tup (n := 2) rfl (pgs_cons (pg_name (i := 10) sc_law.nd rfl (.inl rfl)) (pgs_cons (pg_name (i := 13) sc_law.nd rfl (.inr rfl)) pgs_nil)))))
        (pss_cons (ps_set (i := 11) sc_law.nd rfl (.inr rfl) (pe_op op_cat (pe_op op_cat (pe_op op_cat (pe_slice (sl_listK K) (pv 12) po_none (po_some (pv 10))) (pe_lst (pa_cons (pv 13) pa_nil))) (pe_slice (sl_listK K) (pv 12) (po_some (pv 10)) po_none)) (pe_lst (pa_cons pe_str pa_nil))))
        (pss_cons (ps_if (pt_cmpR (op_neDK K hu64) (pe_lcall (T := TT) (t := fun E => tMake C (spIn K C CR) [] E (tCons (tVar 11) tNil)) L_ref (by rfl) MK (hr.r.mono (by decide)) rfl rfl (fun _ _ _ _ _ => rfl) (fun A outer s H E f c1 hr2 => pke (E := E) N hr2 (by rfl) m_Rules (passes_call (takes_of rfl rfl rfl rfl) fun _ _ _ _ h => h) (pa_cons (pv 11) pa_nil))) (pe_tup (pa_cons pe_str (pa_cons (pv 13) (pa_cons pe_bl pa_nil)))) (nomark _))
      (pss_one (ps_ret pe_bl))
      pss_nil)
        (pss_cons (ps_if (pt_cmpR op_notN (pe_lcall (T := TT) (t := fun E => tMake C (spIn K C CR) [] E (tCons (tVar 12) tNil)) L_ref (by rfl) MK (hr.r.mono (by decide)) rfl rfl (fun _ _ _ _ _ => rfl) (fun A outer s H E f c1 hr2 => pke (E := E) N hr2 (by rfl) m_Rules (passes_call (takes_of rfl rfl rfl rfl) fun _ _ _ _ h => h) (pa_cons (pv 12) pa_nil))) pe_non (nomark _))
      (pss_one (ps_ret pe_bl))
      pss_nil)
        (pss_one (ps_if (pt_cmpR (op_neDK K hu64) (pe_lcall (T := TT) (t := fun E => tCMeth C (spOf C CR) E (tC (.ref C)) (tCons (tC (.str "keep")) (tCons (tVar 13) tNil))) L_ref (by rfl) MK (hr.r.mono (by decide)) rfl rfl (fun _ _ _ _ _ => rfl) (fun A outer s H E f c1 hr2 => pce (E := E) M_of hr2 (passes_call (takes_of rfl rfl rfl rfl) fun _ _ _ _ h => h) (pe_glob rfl m_Rules (v := .ref C) rfl) (pa_cons pe_str (pa_cons (pv 13) pa_nil)))) (pe_tup (pa_cons pe_str (pa_cons (pv 13) (pa_cons pe_bl pa_nil)))) (nomark _))
      (pss_one (ps_ret pe_bl))
      pss_nil)))))))))))))))))))
    (pss_one (ps_ret pe_bl)))), ?_⟩
    show tSeq _ _ _ [some (.ref a), none, none, none, none, none, none, none, none, none, none, none, none, none, none] H
    refine seqi fun k0 hk0 => ?_
    walk_at "rd"
    refine ⟨a, ns, rfl, hS, hlen, fun H1 p c np e1 P1 => ?_⟩
    have T1 := hT.ext e1
    subst hk0
    refine seqi fun k0 hk0 => ?_
    walk_at "rd"
    refine ⟨by decide, by decide, ?_⟩
    refine forg_by (jseq_rng 0 6) (fun i σ' H' => (∃ y2 y3 y4 y5 y6 y7 y8 y9 y10 y11 y12 y13, σ' = [some (.ref a), some (.ref p), y2, y3, y4, y5, y6, y7, y8, y9, y10, y11, y12, y13, none]) ∧ PenOk H' p c (1000 * i) ∧ Tabs TT H')
      ⟨⟨none, none, none, none, none, none, none, none, none, none, none, none, rfl⟩, P1.mono (by omega), T1⟩ (fun i σ' H' _ h => trivial) (fun i x σ' H4 hx h => ?_) (fun σ' H' h => ?_)
    · obtain ⟨⟨y2, y3, y4, y5, y6, y7, y8, y9, y10, y11, y12, y13, rfl⟩, P4, T4⟩ := h
      have hi : i < 6 := by
        have := (List.getElem?_eq_some_iff.mp hx).1
        rw [rngV_len] at this
        exact this
      walk_at "rd"
      refine seqi fun k1 hk1 => ?_
      walk_at "rd"
      refine ⟨p, c, _, rfl, P4, by omega, T4, fun H5 P5 T5 => ⟨_, rfl, iteF ?_⟩⟩
      subst hk1
      refine seqi fun k1 hk1 => ?_
      walk_at "rd"
      refine ⟨rfl, fun v6 H6 e6 h6 => ?_⟩
      have P6 := P5.same e6
      have T6 := T5.ext e6
      refine ⟨p, c, 10, _, rfl, P6, by omega, by decide, by decide, fun r7 H7 r70 r71 P7 b7 => ?_⟩
      obtain ⟨kvs6, hp6⟩ := P6.dict
      have T7 := tabs_but hp6 b7 T6
      have h7 := h6.but hp6 b7
      refine ⟨p, c, v6, r7, _, R9.map fun n => PyData.str (rn n), rfl, P7, h7, r70, by omega, by decide, by omega, fun a8 H8 es rest pm P8 b8 h8 => ?_⟩
      obtain ⟨kvs7, hp7⟩ := P7.dict
      have T8 := tabs_but hp7 b8 T7
      obtain ⟨all, pall, eall⟩ := perm_map_inv pm R9 rfl
      obtain ⟨ns, ms, rfl, rfl, rfl⟩ : ∃ ns ms, all = ns ++ ms ∧ es = ns.map (fun n => PyData.str (rn n)) ∧ rest = ms.map (fun n => PyData.str (rn n)) := by
        refine ⟨all.take es.length, all.drop es.length, (List.take_append_drop _ _).symm, ?_, ?_⟩
        · rw [List.map_take, ← eall, List.take_left']
          rfl
        · rw [List.map_drop, ← eall, List.drop_left']
          rfl
      clear pm eall
      have hnd : ns.Nodup := (List.nodup_append.mp (pall.nodup_iff.mpr (by decide))).1
      have hns : ∀ n ∈ ns, n ∈ R9 := fun n hn => pall.mem_iff.mp (List.mem_append_left _ hn)
      have hnl : ns.length ≤ 9 := by
        have := pall.length_eq
        rw [List.length_append] at this
        have e9 : R9.length = 9 := rfl
        omega
      have h8 : Dt H8 (.ref a8) (ruD ns) := h8
      have P8 : PenOk H8 p c (1000 * i + 20) := P8.mono (by have e9 : (R9.map fun n => PyData.str (rn n)).length = 9 := rfl; omega)
      clear P4 T4 P5 T5 P6 T6 P7 T7 h6 h7 e6 b7 b8 hp6 hp7 hS hT e1 P1 T1
      subst hk1
      refine seqi fun k1 hk1 => ?_
      walk_at "rd"
      refine ⟨rfl, fun v9 H9 e9 h9 => ?_⟩
      obtain ⟨a9, rfl, ha9⟩ := h9.rules
      obtain ⟨b8, eb8, hb8⟩ := h8.rules
      cases eb8
      refine ⟨_, rfl, ⟨_, .inl (.inl ha9)⟩, lcg_old (jseq_list K _ _) (.inl (.inl ha9)) R9 (fun n => .str (rn n)) (dts_rS R9) (by decide) (fun n => decide (n ∈ ns)) (fun n => .str (rn n)) (fun z n hn hz H10 e10 S1 S0 s1 s0 => ?_) (fun D10 H10 hD10 e10 h10 => ?_)⟩
      · obtain rfl := hz.txt
        walk_at "rd"
        refine ⟨_, .inl (.inl (.inl (e10 _ _ (e9 _ _ hb8)))), rfl, flat_strs _, ?_⟩
        rw [inV_strs, decide_eq_decide.mpr (iff_of_eq (mem_rS hn hns))]
        exact ite2 (fun h => s1 h _ _ (Same.refl _) (.str _)) (fun h => s0 (Bool.eq_false_iff.mpr h) _ (Same.refl _))
      have h10 : Dt H10 (.ref D10) (ruD (srt ns)) := h10
      have e810 := e9.trans e10
      have P10 := P8.same e810
      have T10 := T8.ext e810
      have h8 := h8.same e810
      have hb8 := e810 _ _ hb8
      clear P8 T8 e9 e10 h9 ha9 hD10 e810
      subst hk1
      refine seqi fun k1 hk1 => ?_
      walk_at "rd"
      refine ⟨p, c, 3, _, rfl, P10, by omega, by decide, by decide, fun r11 H11 r110 r111 P11 b11 => ?_⟩
      obtain ⟨kvs10, hp10⟩ := P10.dict
      have T11 := tabs_but hp10 b11 T10
      have h8 := h8.but hp10 b11
      have h10 := h10.but hp10 b11
      obtain ⟨b8, eb8, hb8⟩ := h8.rules
      cases eb8
      obtain ⟨m, rfl⟩ : ∃ m : Nat, r11 = (m : Int) := ⟨r11.toNat, by omega⟩
      refine ⟨m, rfl, _, .inl (.inl hb8), fun l12 hl12 => ?_⟩
      simp only [cut_to]
      have nl12 : a8 ≠ l12 := ne_of_none hb8 hl12
      have hsl : (ns ++ ns.take m).length ≤ 18 := by
        rw [List.length_append, List.length_take]
        omega
      have big : 1000 ≤ sizeLine := by decide
      have lns : ((rS ns).map V.str).length = ns.length := by rw [List.length_map]; exact List.length_map _
      refine ⟨_, by rw [upd_ne nl12]; exact hb8, _, upd_same, ?_, fun l13 hl13 => ?_⟩
      · rw [List.length_take, lns]
        omega
      have e13 : (rS ns).map V.str ++ ((rS ns).map V.str).take m = (rS (ns ++ ns.take m)).map V.str := by
        unfold rS
        rw [List.map_append, List.map_append, List.map_take, List.map_take]
      rw [e13]
      have s13 : Same H11 (upd (upd H11 l12 (HO.lst (((rS ns).map V.str).take m))) l13 (HO.lst ((rS (ns ++ ns.take m)).map V.str))) := (same_new hl12).trans (same_new hl13)
      have d13 : Dt (upd (upd H11 l12 (HO.lst (((rS ns).map V.str).take m))) l13 (HO.lst ((rS (ns ++ ns.take m)).map V.str))) (.ref l13) (ruD (ns ++ ns.take m)) := by
        rw [ruD_eq]
        exact .lst upd_same (dts_strs _)
      generalize upd (upd H11 l12 (HO.lst (((rS ns).map V.str).take m))) l13 (HO.lst ((rS (ns ++ ns.take m)).map V.str)) = H13 at s13 d13
      have P13 := P11.same s13
      have T13 := T11.ext s13
      have h8 := h8.same s13
      have h10 := h10.same s13
      have hb8 := s13 _ _ hb8
      have hsin : ∀ n ∈ ns ++ ns.take m, n ∈ R9 := fun n hn => by
        rcases List.mem_append.mp hn with h | h
        · exact hns n h
        · exact hns n (List.mem_of_mem_take h)
      obtain ⟨kvs13, hp13⟩ := P13.dict
      refine ⟨p, c, .ref l13, _, (ns ++ ns.take m).map (fun n => .str (rn n)), 0, rfl, P13, d13, (fun d hd => ?_), by decide, (by rw [List.length_map]; omega), by omega, fun a14 H14 es n14 pm P14 b14 h14 => ?_⟩
      · obtain ⟨n, hn, rfl⟩ := List.mem_map.mp hd
        exact shp_rn n (hsin n hn)
      obtain ⟨hz, pz, rfl⟩ := perm_map_inv pm (ns ++ ns.take m) rfl
      have hzm : ∀ n, n ∈ hz ↔ n ∈ ns := fun n => by
        rw [pz.mem_iff, List.mem_append]
        exact ⟨fun h => h.elim id List.mem_of_mem_take, .inl⟩
      have hzin : ∀ n ∈ hz, n ∈ R9 := fun n hn => hns n ((hzm n).mp hn)
      have hzl : hz.length ≤ 18 := by rw [pz.length_eq]; exact hsl
      have P14 : PenOk H14 p c (1000 * i + 60) := P14.mono (by rw [List.length_map]; omega)
      have T14 := tabs_but hp13 b14 T13
      obtain ⟨q10, eq10, hq10⟩ := h10.rules
      cases eq10
      have ne10 : D10 ≠ a14 := ne_of_none hq10 n14
      have nep : a14 ≠ p := (ne_of_none hp13 n14).symm
      obtain ⟨cxs13, hc13⟩ := P13.cells
      have nec : a14 ≠ c := (ne_of_none hc13 n14).symm
      have h8 := h8.but hp13 b14
      have h10 := h10.but hp13 b14
      have h14 : Dt H14 (.ref a14) (ruD hz) := h14
      obtain ⟨b14', eb14, hb14⟩ := h14.rules
      cases eb14
      have ne8 : a8 ≠ a14 := ne_of_none hb8 n14
      clear P8 P10 T10 P11 T11 P13 T13 pm pz d13 s13 e13 hl12 hl13
      subst hk1
      refine seqi fun k1 hk1 => ?_
      walk_at "rd"
      refine ⟨_, .inl (.inl hb14), fun l15 hl15 => ?_⟩
      have s15 : Same H14 (upd H14 l15 (HO.lst ((rS hz).map V.str))) := same_new hl15
      have d15 : Dt (upd H14 l15 (HO.lst ((rS hz).map V.str))) (.ref l15) (ruD hz) := by
        rw [ruD_eq]
        exact .lst upd_same (dts_strs _)
      have hl15' : (upd H14 l15 (HO.lst ((rS hz).map V.str))) l15 = some (HO.lst ((rS hz).map V.str)) := upd_same
      have ne15 : a14 ≠ l15 := ne_of_none hb14 hl15
      generalize upd H14 l15 (HO.lst ((rS hz).map V.str)) = H15 at s15 d15 hl15'
      have P15 := P14.same s15
      have T15 := T14.ext s15
      have h8 := h8.same s15
      have h10 := h10.same s15
      have hb14 := s15 _ _ hb14
      clear P14 T14 h14 hb8 hl15 s15 b14 hp13
      obtain ⟨kvs15, hp15⟩ := P15.dict
      subst hk1
      refine seqi fun k1 hk1 => ?_
      walk_at "rd"
      refine ⟨p, c, 2, _, rfl, P15, by omega, by decide, by decide, fun r16 H16 r160 r161 P16 b16 => ?_⟩
      have T16 := tabs_but hp15 b16 T15
      have h8 := h8.but hp15 b16
      have h10 := h10.but hp15 b16
      have d16 := d15.but hp15 b16
      have hb14 := b16.1 _ _ hb14 (ne_of hb14 hp15 (by intro z; cases z))
      clear P15 T15 d15 hl15' b16 hp15
      have go : ∀ (p17 : Addr) (H17 : Hp), Same H16 H17 → RuAt H17 C p17 (srt ns) →
          k1 [some (.ref a), some (.ref p), some x, some (.ref a8), some (.ref D10), some (.ref a14), some (.ref p17), y7, y8, y9, y10, y11, some (.ref l15), y13, none] H17 := fun p17 H17 s17 r17 => by
        have P17 := P16.same s17
        have T17 := T16.ext s17
        have h8 := h8.same s17
        have h10 := h10.same s17
        have d17 := d16.same s17
        have hb14 := s17 _ _ hb14
        clear P16 T16 d16 s17
        subst hk1
        refine seqi fun k1 hk1 => ?_
        walk_at "rd"
        have dz : Dt H17 (.ref a14) (ruD hz) := by
          rw [ruD_eq]
          exact .lst hb14 (dts_strs _)
        refine ⟨ruD hz, ruD hz, dz.dp, d17.dp, (shp_ru hzin).ok (by decide), (shp_ru hzin).ok (by decide), ?_⟩
        rw [eqv_ru hzin hzin, decide_eq_true rfl]
        refine ⟨_, rfl, iteF ?_⟩
        clear dz
        subst hk1
        refine seqi fun k1 hk1 => ?_
        walk_at "rd"
        refine ⟨.inl ⟨rfl, _, .inl (.inl hb14)⟩, a14, _, rfl, rfl, hb14, ?_⟩
        have P18 : PenOk (upd H17 a14 (HO.lst [])) p c (1000 * i + 61) := P17.mut nep nec
        have T18 := tabs_lst (o := HO.lst []) hb14 T17
        have h8 := ru_mut (o := HO.lst []) h8 (fun z => ne8 (V.ref.inj z))
        have h10 := ru_mut (o := HO.lst []) h10 (fun z => ne10 (V.ref.inj z))
        have d18 := ru_mut (o := HO.lst []) d17 (fun z => ne15.symm (V.ref.inj z))
        have r18 := r17.mutl (o := HO.lst []) hb14
        generalize upd H17 a14 (HO.lst []) = H18 at P18 T18 h8 h10 d18 r18
        clear P17 T17 d17 hb14 r17
        subst hk1
        refine seqi fun k1 hk1 => ?_
        walk_at "rd"
        refine ⟨by decide, by decide, ?_⟩
        refine forg_by (jseq_rng 0 2) (fun j σ' H' => (∃ z7 z8, σ' = [some (.ref a), some (.ref p), some x, some (.ref a8), some (.ref D10), some (.ref a14), some (.ref p17), z7, z8, y9, y10, y11, some (.ref l15), y13, none]) ∧ Same H18 H')
          ⟨⟨y7, y8, rfl⟩, Same.refl _⟩ (fun j σ' H' _ h => trivial) (fun j xj σ' H19 hx h => ?_) (fun σ' H19 h => ?_)
        · obtain ⟨⟨z7, z8, rfl⟩, s19⟩ := h
          walk_at "rd"
          refine seqi fun k2 hk2 => ?_
          walk_at "rd"
          have r19 := r18.same s19
          obtain ⟨dx19, t19, g1, g2⟩ := id r19
          refine ⟨dx19, _, g1, rFl_no _ _ _ (by decide +kernel) (by decide +kernel), p17, srt ns, rfl, r19, fun a20 H20 n20 e20 h20 => ?_⟩
          subst hk2
          refine seqi fun k2 hk2 => ?_
          walk_at "rd"
          obtain ⟨w1, w2, w3, w4⟩ := ru_show (l := srt ns) srt_in srt_len
          have h10b := h10.same (s19.trans e20)
          refine ⟨a20, _, rfl, h20.dp, w1, w2, w3, Nat.le_trans w4 big, D10, _, rfl, h10b.dp, w1, w2, w3, Nat.le_trans w4 big, rfl, ifneS ?_⟩
          have r20 := r19.same e20
          obtain ⟨dx20, t20, g3, g4⟩ := id r20
          refine ⟨p17, dx20, _, rfl, g3, p17, srt ns, rfl, r20, (srt ns).length, rfl, (by have := srt_len (ns := ns); omega), ?_⟩
          obtain ⟨bD, eD, hD⟩ := h10b.rules
          cases eD
          have lsr : ((rS (srt ns)).map V.str).length = (srt ns).length := by rw [List.length_map]; exact List.length_map _
          refine ⟨_, .inl (.inl hD), rfl, ?_⟩
          rw [lsr]
          refine ifneS ?_
          refine ⟨p17, dx20, _, rfl, g3, p17, srt ns, rfl, r20, _, rfl, Nat.zero_le _, fun l21 hl21 => ?_⟩
          have s21 := same_new (o := HO.lst []) hl21
          refine ne_nilD (ds := (srt ns).map fun i => PyData.str (rn i)) (h10b.same s21) ((shp_ru srt_in).ok (by decide)) upd_same ⟨rfl, ?_⟩
          rw [show ((srt ns).map fun i => PyData.str (rn i)).isEmpty = (srt ns).isEmpty from by cases srt ns <;> rfl]
          refine ifneS ?_
          obtain ⟨b20, eb20, hb20⟩ := h20.rules
          cases eb20
          subst hk2
          walk_at "rd"
          refine ⟨.inl ⟨rfl, _, .inl (.inl (s21 _ _ hb20))⟩, _, s21 _ _ hb20, ?_, ?_⟩
          · rw [lsr]
            have := srt_len (ns := ns)
            omega
          · exact ⟨⟨_, rfl⟩, Same.mut ((s19.trans e20).trans s21) (s19.free n20)⟩
        · obtain ⟨⟨z7, z8, rfl⟩, s19⟩ := h
          have P19 := P18.same s19
          have T19 := T18.ext s19
          have h8 := h8.same s19
          have h10 := h10.same s19
          have d19 := d18.same s19
          have r19 := r18.same s19
          clear P18 T18 d18 r18 s19
          subst hk1
          dsimp only
          refine seqi fun k1 hk1 => ?_
          walk_at "rd"
          obtain ⟨bD, eD, hD⟩ := h10.rules
          cases eD
          have l900 : (rS (srt ns)).length ≤ 900 := by
            rw [rS_len]
            exact Nat.le_trans srt_len (by decide)
          have allS := rS_all (ns := srt ns) srt_in
          refine mk_newA (zs := rS (srt ns)) (.inl (.inl (.inl hD))) l900 (fun _ q20 H20 e20 r20 => ?_) (bad_none allS)
          rw [esrt srt_in, srt_srt] at r20
          have rp := r19.same e20
          obtain ⟨dxa, ta, ga, _⟩ := id rp
          obtain ⟨dxb, tb, gb, _⟩ := id r20
          refine ⟨dxa, _, ga, dxb, _, gb, p17, srt ns, q20, srt ns, rfl, rp, r20, srt_in, srt_in, fun H21 e21 => ?_⟩
          refine ⟨_, rfl, ?_⟩
          rw [decide_eq_true (rfl : srt ns = srt ns)]
          refine iteF ⟨_, .inl (.inl ((e20.trans e21) _ _ hD)), fun l22 hl22 => ?_⟩
          refine mk_newA (zs := (rS (srt ns)).reverse) (.inl (.inl (.inl (by rw [upd_same, List.map_reverse])))) (by rw [List.length_reverse]; exact l900) (fun _ q23 H23 e23 r23 => ?_) (bad_none fun y hy => allS y (List.mem_reverse.mp hy))
          rw [esrtR srt_in, srt_srt] at r23
          have e1923 := ((e20.trans e21).trans (same_new hl22)).trans e23
          have rp := r19.same e1923
          obtain ⟨dxa, ta, ga, _⟩ := id rp
          obtain ⟨dxb, tb, gb, _⟩ := id r23
          refine ⟨dxa, _, ga, dxb, _, gb, p17, srt ns, q23, srt ns, rfl, rp, r23, srt_in, srt_in, fun H24 e24 => ?_⟩
          refine ⟨_, rfl, ?_⟩
          rw [decide_eq_true (rfl : srt ns = srt ns)]
          refine iteF ?_
          have e1924 := e1923.trans e24
          clear e1923 e20 e21 hl22 e23 e24 r20 r23 rp ga gb
          have nil_r : (R9.filter fun i => decide (rn i ∈ ([] : List Str))) = [] := by decide
          refine mk_newA (zs := []) (.inr (hda _)) (by decide) (fun _ q25 H25 e25 r25 => ⟨Nat.zero_le _, fun l26 hl26 => ?_⟩) (bad_none fun y hy => nomatch hy)
          rw [nil_r] at r25
          refine mk_newA (zs := []) (.inl (.inl (.inl upd_same))) (by decide) (fun _ q27 H27 e27 r27 => ?_) (bad_none fun y hy => nomatch hy)
          rw [nil_r] at r27
          have ra := r25.same ((same_new hl26).trans e27)
          obtain ⟨dxa, ta, ga, _⟩ := id ra
          obtain ⟨dxb, tb, gb, _⟩ := id r27
          refine ⟨dxa, _, ga, dxb, _, gb, q25, [], q27, [], rfl, ra, r27, (fun n hn => nomatch hn), (fun n hn => nomatch hn), fun H28 e28 => ?_⟩
          refine ⟨_, rfl, ?_⟩
          rw [decide_eq_true (rfl : ([] : List Nat) = [])]
          refine iteF ?_
          refine mk_newA (zs := []) (.inr (hda _)) (by decide) (fun _ q29 H29 e29 r29 => ?_) (bad_none fun y hy => nomatch hy)
          rw [nil_r] at r29
          obtain ⟨dxc, tc, gc, _⟩ := id r29
          refine ⟨dxc, _, gc, rFl_no _ _ _ (by decide +kernel) (by decide +kernel), q29, [], rfl, r29, fun a30 H30 n30 e30 h30 => ?_⟩
          refine ⟨Nat.zero_le _, fun l31 hl31 => ?_⟩
          refine ne_nilD (ds := []) (h30.same (same_new hl31)) (by decide) upd_same ⟨_, rfl, iteF ?_⟩
          have e1931 := ((((((e1924.trans e25).trans (same_new hl26)).trans e27).trans e28).trans e29).trans e30).trans (same_new (o := HO.lst []) hl31)
          have P31 := P19.same e1931
          have T31 := T19.ext e1931
          have h8 := h8.same e1931
          have h10 := h10.same e1931
          have d31 := d19.same e1931
          have r31 := r19.same e1931
          generalize upd H30 l31 (HO.lst []) = H31 at P31 T31 h8 h10 d31 r31
          clear e1931 e1924 e25 hl26 e27 e28 e29 e30 hl31 r25 r27 ra ga gb r29 gc h30 n30 hD P19 T19 d19 r19
          subst hk1
          refine seqi fun k1 hk1 => ?_
          walk_at "rd"
          obtain ⟨b8, eb8, hb8⟩ := h8.rules
          cases eb8
          refine ⟨_, .inl (.inl hb8), fun l32 hl32 => ?_⟩
          have e32 : ((rS ns).map V.str).take 3 = (rS (ns.take 3)).map V.str := by
            unfold rS
            rw [List.map_take, List.map_take]
          rw [show (3 : Int) = ((3 : Nat) : Int) from rfl, cut_to, e32]
          have s32 : Same H31 (upd H31 l32 (HO.lst ((rS (ns.take 3)).map V.str))) := same_new hl32
          have d32 : Dt (upd H31 l32 (HO.lst ((rS (ns.take 3)).map V.str))) (.ref l32) (ruD (ns.take 3)) := by
            rw [ruD_eq]
            exact .lst upd_same (dts_strs _)
          have h32 : (upd H31 l32 (HO.lst ((rS (ns.take 3)).map V.str))) l32 = some (HO.lst ((rS (ns.take 3)).map V.str)) := upd_same
          generalize upd H31 l32 (HO.lst ((rS (ns.take 3)).map V.str)) = H32 at s32 d32 h32
          have P32 := P31.same s32
          have T32 := T31.ext s32
          have hb8 := s32 _ _ hb8
          have d32z := d31.same s32
          have r32 := r31.same s32
          have hfew : ∀ n ∈ ns.take 3, n ∈ R9 := fun n hn => hns n (List.mem_of_mem_take hn)
          have lfew : (ns.take 3).length ≤ 3 := by
            rw [List.length_take]
            omega
          clear h8 hl32 s32 P31 T31 d31 r31 e32 h10
          subst hk1
          refine seqi fun k1 hk1 => ?_
          walk_at "rd"
          refine ⟨.ref l32, ns.take 3, rfl, d32, hfew, lfew, fun q33 H33 e33 r33 => ?_⟩
          have r33 : RuAt H33 C q33 (srt (ns.take 3)) := r33
          have lf900 : (rS (ns.take 3)).length ≤ 900 := by
            rw [rS_len]
            omega
          have allF := rS_all hfew
          refine mk_newA (zs := rS (ns.take 3)) (.inl (.inl (.inl (e33 _ _ h32)))) lf900 (fun _ q34 H34 e34 r34 => ?_) (bad_none allF)
          rw [esrt hfew] at r34
          have rp := r33.same e34
          obtain ⟨dxa, ta, ga, _⟩ := id rp
          obtain ⟨dxb, tb, gb, _⟩ := id r34
          refine ⟨q33, rfl, dxa, _, ga, dxb, _, gb, q33, srt (ns.take 3), q34, srt (ns.take 3), rfl, rp, r34, srt_in, srt_in, fun H35 e35 => ?_⟩
          refine ⟨_, rfl, ?_⟩
          rw [decide_eq_true (rfl : srt (ns.take 3) = srt (ns.take 3))]
          refine iteF ?_
          have e3235 := (e33.trans e34).trans e35
          refine mk_newA (zs := rS (ns.take 3)) (.inl (.inl (.inl (e3235 _ _ h32)))) lf900 (fun _ q36 H36 e36 r36 => ?_) (bad_none allF)
          rw [esrt hfew] at r36
          have rm := r32.same (e3235.trans e36)
          obtain ⟨dxc, tc, gc, _⟩ := id r36
          obtain ⟨dxd, td, gd, _⟩ := id rm
          refine ⟨dxc, _, gc, dxd, _, gd, q36, srt (ns.take 3), p17, srt ns, rfl, r36, rm, srt_in, srt_in, fun H37 e37 => ?_⟩
          have e3237 := (e3235.trans e36).trans e37
          have h32 := e3237 _ _ h32
          have hb8 := e3237 _ _ hb8
          have P37 := P32.same e3237
          have T37 := T32.ext e3237
          have d37 := d32z.same e3237
          clear e33 e34 e35 e36 e37 e3235 e3237 r33 r34 rp ga gb gc gd rm r36 r32 P32 T32 d32z
          refine ⟨_, .inl (.inl h32), _, .inl (.inl hb8), rfl, rfl, ?_⟩
          have el : decide ((((rS (ns.take 3)).map V.str).length : Int) = (((rS ns).map V.str).length : Int)) = decide ((ns.take 3).length = ns.length) := decide_eq_decide.mpr (by
            rw [List.length_map, rS_len, List.length_map, rS_len]
            exact Int.ofNat_inj)
          rw [few_eq hnd hns, el]
          refine ifneS ?_
          clear h32 hb8 el
          subst hk1
          refine seqi fun k1 hk1 => ?_
          walk_at "rd"
          obtain ⟨bk, ek, hk37⟩ := d37.rules
          cases ek
          have lz : ((rS hz).map V.str).length = hz.length := by rw [List.length_map, rS_len]
          refine ⟨_, .inl (.inl hk37), ?_⟩
          rw [lz]
          refine ⟨p, c, _, _, rfl, P37, by omega, by omega, ?_, fun r38 H38 r380 r381 P38 b38 => ?_⟩
          · exact lg_small (n := hz.length + 1) (by omega)
          obtain ⟨kvs37, hp37⟩ := P37.dict
          have T38 := tabs_but hp37 b38 T37
          have d38 := d37.but hp37 b38
          obtain ⟨m2, rfl⟩ : ∃ m2 : Nat, r38 = (m2 : Int) := ⟨r38.toNat, by omega⟩
          have hm2 : m2 ≤ hz.length := by omega
          refine ⟨Nat.le_of_lt (small1000 (show 6 ≤ 1000 by decide)), fun l39 hl39 => ?_⟩
          have s39 := same_new (o := HO.lst [V.str "", V.str "sets", V.str "First", V.str "orders", V.str "x", V.str "keep "]) hl39
          refine ⟨p, c, .ref l39, _, oddR.map PyData.str, rfl, P38.same s39, by omega, .lst upd_same (dts_strs oddR), by decide, by decide, fun v40 H40 d40 hd40 h40 P40 b40 => ?_⟩
          obtain ⟨z, hzo, rfl⟩ := List.mem_map.mp hd40
          obtain rfl := h40.txt
          obtain ⟨kvs39, hp39⟩ := (P38.same s39).dict
          have T40 := tabs_but hp39 b40 (T38.ext s39)
          have d40 := (d38.same s39).but hp39 b40
          refine ⟨Nat.le_of_lt (small1000 (show 2 ≤ 1000 by decide)), fun l41 hl41 => ⟨_, .inl (.inl upd_same), rfl, _, _, rfl, _, _, rfl, rfl, ?_⟩⟩
          have s41 := same_new (o := HO.tup [V.int (m2 : Int), V.str z]) hl41
          have P41 : PenOk (upd H40 l41 (HO.tup [V.int (m2 : Int), V.str z])) p c (1000 * i + 70) := (P40.same s41).mono (by omega)
          have T41 := T40.ext s41
          have d41 := d40.same s41
          generalize upd H40 l41 (HO.tup [V.int (m2 : Int), V.str z]) = H41 at P41 T41 d41
          clear d37 hk37 P37 T37 b38 T38 d38 s39 hl39 b40 T40 d40 s41 hl41 P38 hp37 hp39 h40 hd40 P40
          subst hk1
          refine seqi fun k1 hk1 => ?_
          walk_at "rd"
          obtain ⟨bk, ek, hk41⟩ := d41.rules
          cases ek
          have l1 : ((rS hz).map V.str).length ≤ 18 := by
            rw [lz]
            exact hzl
          have big1 : 1 ≤ sizeLine := Nat.le_of_lt (small1000 (by decide))
          have tkl : ∀ n, (((rS hz).map V.str).take n).length ≤ 18 := fun n => by
            rw [List.length_take]
            omega
          have dpl : ∀ n, (((rS hz).map V.str).drop n).length ≤ 18 := fun n => by
            rw [List.length_drop]
            omega
          refine ⟨_, .inl (.inl hk41), ?_⟩
          simp only [cut_to]
          intro q1 n1
          have sA := same_new (o := HO.lst (((rS hz).map V.str).take m2)) n1
          have gA : upd H41 q1 (HO.lst (((rS hz).map V.str).take m2)) q1 = some (HO.lst (((rS hz).map V.str).take m2)) := upd_same
          generalize upd H41 q1 (HO.lst (((rS hz).map V.str).take m2)) = HA at sA gA
          refine ⟨big1, fun q2 n2 => ?_⟩
          have sB := same_new (o := HO.lst [V.str z]) n2
          have gB : upd HA q2 (HO.lst [V.str z]) q2 = some (HO.lst [V.str z]) := upd_same
          generalize upd HA q2 (HO.lst [V.str z]) = HB at sB gB
          refine ⟨_, sB _ _ gA, _, gB, ?_, fun q3 n3 => ?_⟩
          · have := tkl m2
            show _ + 1 ≤ _
            omega
          have sC := same_new (o := HO.lst (((rS hz).map V.str).take m2 ++ [V.str z])) n3
          have gC : upd HB q3 (HO.lst (((rS hz).map V.str).take m2 ++ [V.str z])) q3 = some (HO.lst (((rS hz).map V.str).take m2 ++ [V.str z])) := upd_same
          generalize upd HB q3 (HO.lst (((rS hz).map V.str).take m2 ++ [V.str z])) = HC at sC gC
          refine ⟨_, .inl (.inl (((sA.trans sB).trans sC) _ _ hk41)), ?_⟩
          simp only [cut_from]
          intro q4 n4
          have sD := same_new (o := HO.lst (((rS hz).map V.str).drop m2)) n4
          have gD : upd HC q4 (HO.lst (((rS hz).map V.str).drop m2)) q4 = some (HO.lst (((rS hz).map V.str).drop m2)) := upd_same
          generalize upd HC q4 (HO.lst (((rS hz).map V.str).drop m2)) = HD at sD gD
          refine ⟨_, sD _ _ gC, _, gD, ?_, fun q5 n5 => ?_⟩
          · have := tkl m2
            have := dpl m2
            rw [List.length_append]
            show _ + 1 + _ ≤ _
            omega
          have sE := same_new (o := HO.lst ((((rS hz).map V.str).take m2 ++ [V.str z]) ++ ((rS hz).map V.str).drop m2)) n5
          have gE : upd HD q5 (HO.lst ((((rS hz).map V.str).take m2 ++ [V.str z]) ++ ((rS hz).map V.str).drop m2)) q5 = some (HO.lst ((((rS hz).map V.str).take m2 ++ [V.str z]) ++ ((rS hz).map V.str).drop m2)) := upd_same
          generalize upd HD q5 (HO.lst ((((rS hz).map V.str).take m2 ++ [V.str z]) ++ ((rS hz).map V.str).drop m2)) = HE at sE gE
          refine ⟨big1, fun q6 n6 => ?_⟩
          have sF := same_new (o := HO.lst [V.str "words"]) n6
          have gF : upd HE q6 (HO.lst [V.str "words"]) q6 = some (HO.lst [V.str "words"]) := upd_same
          generalize upd HE q6 (HO.lst [V.str "words"]) = HF at sF gF
          refine ⟨_, sF _ _ gE, _, gF, ?_, fun q7 n7 => ?_⟩
          · have := tkl m2
            have := dpl m2
            rw [List.length_append, List.length_append]
            show _ + 1 + _ + 1 ≤ _
            omega
          have eG : (((((rS hz).map V.str).take m2 ++ [V.str z]) ++ ((rS hz).map V.str).drop m2) ++ [V.str "words"]) = ((rS hz).take m2 ++ z :: ((rS hz).drop m2 ++ [("words" : Str)])).map V.str := by
            rw [List.map_append, List.map_take, List.map_cons, List.map_append, List.map_drop, List.append_assoc, List.append_assoc]
            rfl
          rw [eG]
          have sG := same_new (o := HO.lst (((rS hz).take m2 ++ z :: ((rS hz).drop m2 ++ [("words" : Str)])).map V.str)) n7
          have gG : upd HF q7 (HO.lst (((rS hz).take m2 ++ z :: ((rS hz).drop m2 ++ [("words" : Str)])).map V.str)) q7 = some (HO.lst (((rS hz).take m2 ++ z :: ((rS hz).drop m2 ++ [("words" : Str)])).map V.str)) := upd_same
          generalize upd HF q7 (HO.lst (((rS hz).take m2 ++ z :: ((rS hz).drop m2 ++ [("words" : Str)])).map V.str)) = HG at sG gG
          have s41G := (((((sA.trans sB).trans sC).trans sD).trans sE).trans sF).trans sG
          have PG := P41.same s41G
          have TG := T41.ext s41G
          have hkG := s41G _ _ hk41
          clear sA gA sB gB sC gC sD gD sE gE sF gF sG n1 n2 n3 n4 n5 n6 n7 s41G P41 T41 hk41 d41 eG
          subst hk1
          refine seqi fun k1 hk1 => ?_
          walk_at "rd"
          have okz : OkS z := oddR_ok z hzo
          have okr : OkS ("rule" : Str) := by decide +kernel
          have zno := oddR_no z hzo
          have tks : ∀ y ∈ (rS hz).take m2, y ∈ rS R9 := fun y hy => rS_all hzin y (List.mem_of_mem_take hy)
          refine ⟨TG, fun HH xH TH => ?_⟩
          have gH := xH _ _ gG (fun ps e => nomatch e)
          have hkH := xH _ _ hkG (fun ps e => nomatch e)
          have PH := penx PG xH
          clear PG TG gG hkG xH
          refine mk_newA (zs := (rS hz).take m2 ++ z :: ((rS hz).drop m2 ++ [("words" : Str)])) (.inl (.inl (.inl gH))) ?_ (fun hall => absurd (hall z (List.mem_append_right _ List.mem_cons_self)) zno) (fun ib zb hzb hnb hpb d HJ nd sJ hd => ?_)
          · have e1 := tkl m2
            have e2 := dpl m2
            rw [List.length_take, List.length_map] at e1
            rw [List.length_drop, List.length_map] at e2
            rw [List.length_append, List.length_take, List.length_cons, List.length_append, List.length_drop]
            show _ + (_ + 1 + 1) ≤ _
            omega
          obtain rfl := first_bad tks zno hzb hnb hpb
          refine ⟨d, .str zb, "rule", rfl, hd, .inl ⟨rfl, rfl⟩, fun p50 n50 => ⟨Nat.le_of_lt (small1000 (show 3 ≤ 1000 by decide)), fun p51 n51 => ?_⟩⟩
          have s50 := same_new (o := HO.tup [V.str "rule", V.str zb, V.bl true]) n50
          have s51 := same_new (o := HO.tup [V.str "rule", V.str zb, V.bl true]) n51
          refine ⟨tD "rule" zb, tD "rule" zb, (tD_dt (s51 _ _ upd_same)).dp, (tD_dt upd_same).dp, tD_ok okr okz, tD_ok okr okz, ?_⟩
          rw [tD_eqv]
          refine ⟨_, rfl, iteF ?_⟩
          have sH51 := (sJ.trans s50).trans s51
          have P51 := PH.same sH51
          have T51 := TH.ext sH51
          have hk51 := sH51 _ _ hkH
          clear PH TH hkH gH sH51 s50 s51 sJ hd nd n50 hzb hnb hpb
          subst hk1
          refine seqi fun k1 hk1 => ?_
          walk_at "rd"
          refine ⟨T51, fun HK xK TK => ?_⟩
          have hkK := xK _ _ hk51 (fun ps e => nomatch e)
          have PK := penx P51 xK
          have lrz2 : (rS hz).length ≤ 900 := by
            rw [rS_len]
            omega
          refine mk_newA (zs := rS hz) (.inl (.inl (.inl hkK))) lrz2 (fun _ q52 HL eL rL => ?_) (bad_none (rS_all hzin))
          rw [show (!decide True) = false from rfl]
          refine iteF ?_
          have PL := PK.same eL
          have TL := TK.ext eL
          clear P51 T51 hk51 xK hkK PK TK eL rL n51
          subst hk1
          walk_at "rd"
          refine ⟨TL, fun HM xM TM => ?_⟩
          have PM := penx PL xM
          refine ⟨["keep", zb], rfl, (by decide : 2 ≤ 900), fun hall => absurd (hall zb (by simp)) zno, fun ib zc hzc hnc hpc d HN nd sN hd => ?_⟩
          obtain rfl := first_bad (A := ["keep"]) (B := []) (by decide +kernel) zno hzc hnc hpc
          refine ⟨d, .str zc, "rule", rfl, hd, .inl ⟨rfl, rfl⟩, fun p53 n53 => ⟨Nat.le_of_lt (small1000 (show 3 ≤ 1000 by decide)), fun p54 n54 => ?_⟩⟩
          have s53 := same_new (o := HO.tup [V.str "rule", V.str zc, V.bl true]) n53
          have s54 := same_new (o := HO.tup [V.str "rule", V.str zc, V.bl true]) n54
          refine ⟨tD "rule" zc, tD "rule" zc, (tD_dt (s54 _ _ upd_same)).dp, (tD_dt upd_same).dp, tD_ok okr okz, tD_ok okr okz, ?_⟩
          rw [tD_eqv]
          refine ⟨_, rfl, iteF ?_⟩
          have sN54 := (sN.trans s53).trans s54
          exact ⟨⟨_, rfl⟩, (PM.same sN54).mono (by omega), TM.ext sN54⟩
      have esr : (R9.filter fun i => decide (rn i ∈ rS hz)) = srt ns := List.filter_congr fun n hn => decide_eq_decide.mpr ((iff_of_eq (mem_rS hn hzin)).trans (hzm n))
      have lrz : (rS hz).length ≤ 900 := by
        show (hz.map rn).length ≤ 900
        rw [List.length_map]
        omega
      refine ⟨rfl, ite2 (fun _ => ?_) (fun _ => ?_)⟩
      · exact mk_newA (.inl (.inl (.inl hb14))) lrz (fun _ p17 H17 s17 r17 => go p17 H17 s17 (esr ▸ r17)) (bad_none (rS_all hzin))
      · refine ⟨_, .inl (.inl hb14), fun l17 hl17 => ?_⟩
        exact mk_newA (.inr (.inl (.inl upd_same))) lrz (fun _ p17 H17 s17 r17 => go p17 H17 ((same_new hl17).trans s17) (esr ▸ r17)) (bad_none (rS_all hzin))
    · obtain ⟨⟨y2, y3, y4, y5, y6, y7, y8, y9, y10, y11, y12, y13, rfl⟩, P4, T4⟩ := h
      subst hk0
      walk_at "rd"
      exact q _
end
end Fp

namespace Fp
open PySem PySem.Spec PyProof.Rows L2 ClX
local macro_rules | `(tactic| walk_at "rd") => `(tactic| simp only [cxK, cxKn, tRet, tRetN, rIntI, rIntB, rLenL, rListL, rListT, rAbs, tDisp, tPairs, tC, tCB, tCons, tNil, tSl, tVar, tNoPart, tPart, rSlL, tOp, tAsg, gName, tIfS, tDrop, tTest, tAnd, tOr, Evl.tCut, tNot, tB, rI0, rI, rIxL, rIxT, rIxD, tDGet, sDPut, tLst, tTup, tBM, tBM0, tPar, rAppend, rPopAt, rPop, rExtend, rTupL, tCall, tNext, rAll, rOwnIn, rOwn2, rCat, lc_iL, lc_iT, lc_iK, lc_iR, lc_iE, fr_iL, fr_iT, fr_iR, tYes, rIn, rEq, rNe, gTup, gCons, gNil, wipe, tMeth, tFld, sFld, tMake, tProp, tIf, tAndV, tOrV, tNotV, tTru, rIsi, rSum, tRevL, rU, tUn, rIxS, iEnum, if_true, if_false, Bool.false_eq_true, List.map_cons, List.map_nil, List.nil_append, List.append_nil, List.cons_append, List.getElem?_cons_zero, List.getElem?_cons_succ, Option.some.injEq, exists_and_left, exists_eq_left', exists_eq_left, List.cons.injEq, and_true, true_and, V.ref.injEq, V.int.injEq, V.str.injEq, V.bl.injEq, List.set_cons_zero, List.set_cons_succ])
theorem all_mk {l : PySem.W.OpenLaw} {w : World} {K : PySem.W.Frag} {h : Heap} {mg : Str → Option Value} {fa : Addr} (X : K.In h) (G : h.Ns mainGlobals mg) (hfa : mg "law" = some (.ref fa))
    {FE CR CK gR gK aR aD C cL cQ PL PQ p_of p_ao f_ar f_ak f_ro f_ha f_wk f_pe f_dr f_pi f_sh f_ni f_th f_fw f_rf f_kr f_lo f_la f_li f_ln f_bo f_eq f_of f_ao f_in T_in e_in T0 T1 T2 T3 T4 T5 T6 T7 T8 T9 T10 T11 T12 : Addr} {od_ar an_ar od_ak an_ak od_ro an_ro od_ha an_ha od_wk an_wk od_pe an_pe od_dr an_dr od_pi an_pi od_sh an_sh od_ni an_ni od_th an_th od_fw an_fw od_rf an_rf od_kr an_kr od_lo an_lo od_la an_la od_li an_li od_ln an_ln od_bo an_bo od_eq an_eq od_of an_of od_ao an_ao od_in an_in odT odE od_R od_T0 od_T1 od_T2 od_T3 od_T4 od_T5 od_T6 od_T7 od_T8 od_T9 od_T10 od_T11 od_T12 : Option Addr} {sl_ar sl_ak sl_ro sl_ha sl_wk sl_pe sl_dr sl_pi sl_sh sl_ni sl_th sl_fw sl_rf sl_kr sl_lo sl_la sl_li sl_ln sl_bo sl_eq sl_of sl_ao sl_in slT slE sl_R sl_T0 sl_T1 sl_T2 sl_T3 sl_T4 sl_T5 sl_T6 sl_T7 sl_T8 sl_T9 sl_T10 sl_T11 sl_T12 : Array (Option Value)}
    {oc_ar kV_ar dc_ar pm_ar cd_ar ct_ar oc_ak kV_ak dc_ak pm_ak cd_ak ct_ak oc_ro kV_ro dc_ro pm_ro cd_ro ct_ro oc_ha kV_ha dc_ha pm_ha cd_ha ct_ha oc_wk kV_wk dc_wk pm_wk cd_wk ct_wk oc_pe kV_pe dc_pe pm_pe cd_pe ct_pe oc_dr kV_dr dc_dr pm_dr cd_dr ct_dr oc_pi kV_pi dc_pi pm_pi cd_pi ct_pi oc_sh kV_sh dc_sh pm_sh cd_sh ct_sh oc_ni kV_ni dc_ni pm_ni cd_ni ct_ni oc_th kV_th dc_th pm_th cd_th ct_th oc_fw kV_fw dc_fw pm_fw cd_fw ct_fw oc_rf kV_rf dc_rf pm_rf cd_rf ct_rf oc_kr kV_kr dc_kr pm_kr ct_kr oc_lo kV_lo dc_lo pm_lo cd_lo ct_lo oc_la kV_la dc_la pm_la ct_la oc_li kV_li dc_li pm_li cd_li ct_li oc_ln kV_ln dc_ln pm_ln cd_ln ct_ln oc_bo kV_bo dc_bo pm_bo cd_bo ct_bo oc_eq kV_eq dc_eq pm_eq cd_eq ct_eq oc_of kV_of dc_of pm_of cd_of ct_of oc_ao kV_ao dc_ao pm_ao cd_ao ct_ao oc_in kV_in dc_in pm_in cd_in ct_in ocT : Value} {rest_of rest_ao : List Value} {esD : Array DictEntry} {nT nD nE n_R n_T0 n_T1 n_T2 n_T3 n_T4 n_T5 n_T6 n_T7 n_T8 n_T9 n_T10 n_T11 n_T12 : Nat} {t_R_0 t_R_1 t_R_2 t_R_3 t_R_4 t_R_5 t_R_6 t_R_7 t_R_8 t_T1_1 t_T2_0 t_T3_0 t_T3_1 t_T4_0 t_T4_1 t_T4_8 t_T5_0 t_T5_2 t_T6_0 t_T6_2 t_T6_3 t_T7_0 t_T7_2 t_T7_4 t_T8_0 t_T8_1 t_T8_2 t_T8_3 t_T8_4 t_T9_0 t_T9_2 t_T9_5 t_T10_0 t_T10_2 t_T10_3 t_T10_5 t_T10_6 t_T11_0 t_T11_2 t_T11_4 t_T11_5 t_T11_7 t_T12_0 t_T12_1 t_T12_2 t_T12_3 t_T12_4 t_T12_5 t_T12_6 t_T12_7 t_T12_8 : Tok}
    (a_ar : PySem.W.nsIn K mainGlobals "all_rules" = some (some (.ref f_ar)))
    (l_ar : K.lookup f_ar = some ⟨oc_ar, od_ar, .func (PySem.W.fnOf "all_rules" "all_rules" (defArgs s_all_rules) (defBody s_all_rules) (defScope s_all_rules) .none kV_ar dc_ar pm_ar an_ar cd_ar ct_ar), sl_ar⟩)
    (c_ar : PySem.W.codeIn K cd_ar "all_rules" = true)
    (k_ar : PySem.W.keepIn K (.ref f_ar) = true)
    (a_ak : PySem.W.nsIn K mainGlobals "all_kinds" = some (some (.ref f_ak)))
    (l_ak : K.lookup f_ak = some ⟨oc_ak, od_ak, .func (PySem.W.fnOf "all_kinds" "all_kinds" (defArgs s_all_kinds) (defBody s_all_kinds) (defScope s_all_kinds) .none kV_ak dc_ak pm_ak an_ak cd_ak ct_ak), sl_ak⟩)
    (c_ak : PySem.W.codeIn K cd_ak "all_kinds" = true)
    (k_ak : PySem.W.keepIn K (.ref f_ak) = true)
    (a_ro : PySem.W.nsIn K mainGlobals "rules_of" = some (some (.ref f_ro)))
    (l_ro : K.lookup f_ro = some ⟨oc_ro, od_ro, .func (PySem.W.fnOf "rules_of" "rules_of" (defArgs s_rules_of) (defBody s_rules_of) (defScope s_rules_of) .none kV_ro dc_ro pm_ro an_ro cd_ro ct_ro), sl_ro⟩)
    (c_ro : PySem.W.codeIn K cd_ro "rules_of" = true)
    (k_ro : PySem.W.keepIn K (.ref f_ro) = true)
    (a_ha : PySem.W.nsIn K mainGlobals "_has_all" = some (some (.ref f_ha)))
    (l_ha : K.lookup f_ha = some ⟨oc_ha, od_ha, .func (PySem.W.fnOf "_has_all" "_has_all" (defArgs s__has_all) (defBody s__has_all) (defScope s__has_all) .none kV_ha dc_ha pm_ha an_ha cd_ha ct_ha), sl_ha⟩)
    (c_ha : PySem.W.codeIn K cd_ha "_has_all" = true)
    (k_ha : PySem.W.keepIn K (.ref f_ha) = true)
    (a_wk : PySem.W.nsIn K mainGlobals "_weakest_kind" = some (some (.ref f_wk)))
    (l_wk : K.lookup f_wk = some ⟨oc_wk, od_wk, .func (PySem.W.fnOf "_weakest_kind" "_weakest_kind" (defArgs s__weakest_kind) (defBody s__weakest_kind) (defScope s__weakest_kind) .none kV_wk dc_wk pm_wk an_wk cd_wk ct_wk), sl_wk⟩)
    (c_wk : PySem.W.codeIn K cd_wk "_weakest_kind" = true)
    (k_wk : PySem.W.keepIn K (.ref f_wk) = true)
    (a_pe : PySem.W.nsIn K mainGlobals "_law_pen" = some (some (.ref f_pe)))
    (l_pe : K.lookup f_pe = some ⟨oc_pe, od_pe, .func (PySem.W.fnOf "_law_pen" "_law_pen" (defArgs s__law_pen) (defBody s__law_pen) (defScope s__law_pen) .none kV_pe dc_pe pm_pe an_pe cd_pe ct_pe), sl_pe⟩)
    (c_pe : PySem.W.codeIn K cd_pe "_law_pen" = true)
    (k_pe : PySem.W.keepIn K (.ref f_pe) = true)
    (a_dr : PySem.W.nsIn K mainGlobals "_law_draw" = some (some (.ref f_dr)))
    (l_dr : K.lookup f_dr = some ⟨oc_dr, od_dr, .func (PySem.W.fnOf "_law_draw" "_law_draw" (defArgs s__law_draw) (defBody s__law_draw) (defScope s__law_draw) .none kV_dr dc_dr pm_dr an_dr cd_dr ct_dr), sl_dr⟩)
    (c_dr : PySem.W.codeIn K cd_dr "_law_draw" = true)
    (k_dr : PySem.W.keepIn K (.ref f_dr) = true)
    (a_pi : PySem.W.nsIn K mainGlobals "_law_pick" = some (some (.ref f_pi)))
    (l_pi : K.lookup f_pi = some ⟨oc_pi, od_pi, .func (PySem.W.fnOf "_law_pick" "_law_pick" (defArgs s__law_pick) (defBody s__law_pick) (defScope s__law_pick) .none kV_pi dc_pi pm_pi an_pi cd_pi ct_pi), sl_pi⟩)
    (c_pi : PySem.W.codeIn K cd_pi "_law_pick" = true)
    (k_pi : PySem.W.keepIn K (.ref f_pi) = true)
    (a_sh : PySem.W.nsIn K mainGlobals "_law_shuffled" = some (some (.ref f_sh)))
    (l_sh : K.lookup f_sh = some ⟨oc_sh, od_sh, .func (PySem.W.fnOf "_law_shuffled" "_law_shuffled" (defArgs s__law_shuffled) (defBody s__law_shuffled) (defScope s__law_shuffled) .none kV_sh dc_sh pm_sh an_sh cd_sh ct_sh), sl_sh⟩)
    (c_sh : PySem.W.codeIn K cd_sh "_law_shuffled" = true)
    (k_sh : PySem.W.keepIn K (.ref f_sh) = true)
    (a_ni : PySem.W.nsIn K mainGlobals "_law_nine" = some (some (.ref f_ni)))
    (l_ni : K.lookup f_ni = some ⟨oc_ni, od_ni, .func (PySem.W.fnOf "_law_nine" "_law_nine" (defArgs s__law_nine) (defBody s__law_nine) (defScope s__law_nine) .none kV_ni dc_ni pm_ni an_ni cd_ni ct_ni), sl_ni⟩)
    (c_ni : PySem.W.codeIn K cd_ni "_law_nine" = true)
    (k_ni : PySem.W.keepIn K (.ref f_ni) = true)
    (a_th : PySem.W.nsIn K mainGlobals "_law_thirteen" = some (some (.ref f_th)))
    (l_th : K.lookup f_th = some ⟨oc_th, od_th, .func (PySem.W.fnOf "_law_thirteen" "_law_thirteen" (defArgs s__law_thirteen) (defBody s__law_thirteen) (defScope s__law_thirteen) .none kV_th dc_th pm_th an_th cd_th ct_th), sl_th⟩)
    (c_th : PySem.W.codeIn K cd_th "_law_thirteen" = true)
    (k_th : PySem.W.keepIn K (.ref f_th) = true)
    (a_fw : PySem.W.nsIn K mainGlobals "_law_few" = some (some (.ref f_fw)))
    (l_fw : K.lookup f_fw = some ⟨oc_fw, od_fw, .func (PySem.W.fnOf "_law_few" "_law_few" (defArgs s__law_few) (defBody s__law_few) (defScope s__law_few) .none kV_fw dc_fw pm_fw an_fw cd_fw ct_fw), sl_fw⟩)
    (c_fw : PySem.W.codeIn K cd_fw "_law_few" = true)
    (k_fw : PySem.W.keepIn K (.ref f_fw) = true)
    (a_rf : PySem.W.nsIn K mainGlobals "_law_refused" = some (some (.ref f_rf)))
    (l_rf : K.lookup f_rf = some ⟨oc_rf, od_rf, .func (PySem.W.fnOf "_law_refused" "_law_refused" (defArgs s__law_refused) (defBody s__law_refused) (defScope s__law_refused) .none kV_rf dc_rf pm_rf an_rf cd_rf ct_rf), sl_rf⟩)
    (c_rf : PySem.W.codeIn K cd_rf "_law_refused" = true)
    (k_rf : PySem.W.keepIn K (.ref f_rf) = true)
    (a_kr : PySem.W.nsIn K mainGlobals "_law_kinds_right" = some (some (.ref f_kr)))
    (l_kr : K.lookup f_kr = some ⟨oc_kr, od_kr, .func (PySem.W.fnOf "_law_kinds_right" "_law_kinds_right" (defArgs s__law_kinds_right) (defBody s__law_kinds_right) (defScope s__law_kinds_right) .none kV_kr dc_kr pm_kr an_kr (.ref cQ) ct_kr), sl_kr⟩)
    (c_kr : PySem.W.codeIn K (.ref cQ) "_law_kinds_right" = true)
    (k_kr : PySem.W.keepIn K (.ref f_kr) = true)
    (a_lo : PySem.W.nsIn K mainGlobals "_law_of" = some (some (.ref f_lo)))
    (l_lo : K.lookup f_lo = some ⟨oc_lo, od_lo, .func (PySem.W.fnOf "_law_of" "_law_of" (defArgs s__law_of) (defBody s__law_of) (defScope s__law_of) .none kV_lo dc_lo pm_lo an_lo cd_lo ct_lo), sl_lo⟩)
    (c_lo : PySem.W.codeIn K cd_lo "_law_of" = true)
    (k_lo : PySem.W.keepIn K (.ref f_lo) = true)
    (a_la : PySem.W.nsIn K mainGlobals "law" = some (some (.ref f_la)))
    (l_la : K.lookup f_la = some ⟨oc_la, od_la, .func (PySem.W.fnOf "law" "law" (defArgs s_law) (defBody s_law) (defScope s_law) .none kV_la dc_la pm_la an_la (.ref cL) ct_la), sl_la⟩)
    (c_la : PySem.W.codeIn K (.ref cL) "law" = true)
    (k_la : PySem.W.keepIn K (.ref f_la) = true)
    (a_li : PySem.W.findIn K (.ref C) "listed" = some (some (.ref f_li)))
    (i_li : PySem.W.isFn K (.ref f_li) = true)
    (l_li : K.lookup f_li = some ⟨oc_li, od_li, .func (PySem.W.fnOf "listed" "Rules.listed" (defArgs s_Rules_listed) (defBody s_Rules_listed) (defScope s_Rules_listed) .none kV_li dc_li pm_li an_li cd_li ct_li), sl_li⟩)
    (c_li : PySem.W.codeIn K cd_li "Rules.listed" = true)
    (k_li : PySem.W.keepIn K (.ref f_li) = true)
    (a_ln : PySem.W.findIn K (.ref C) "__len__" = some (some (.ref f_ln)))
    (i_ln : PySem.W.isFn K (.ref f_ln) = true)
    (l_ln : K.lookup f_ln = some ⟨oc_ln, od_ln, .func (PySem.W.fnOf "__len__" "Rules.__len__" (defArgs s_Rules___len__) (defBody s_Rules___len__) (defScope s_Rules___len__) .none kV_ln dc_ln pm_ln an_ln cd_ln ct_ln), sl_ln⟩)
    (c_ln : PySem.W.codeIn K cd_ln "Rules.__len__" = true)
    (k_ln : PySem.W.keepIn K (.ref f_ln) = true)
    (a_bo : PySem.W.findIn K (.ref C) "__bool__" = some (some (.ref f_bo)))
    (i_bo : PySem.W.isFn K (.ref f_bo) = true)
    (l_bo : K.lookup f_bo = some ⟨oc_bo, od_bo, .func (PySem.W.fnOf "__bool__" "Rules.__bool__" (defArgs s_Rules___bool__) (defBody s_Rules___bool__) (defScope s_Rules___bool__) .none kV_bo dc_bo pm_bo an_bo cd_bo ct_bo), sl_bo⟩)
    (c_bo : PySem.W.codeIn K cd_bo "Rules.__bool__" = true)
    (k_bo : PySem.W.keepIn K (.ref f_bo) = true)
    (a_eq : PySem.W.findIn K (.ref C) "__eq__" = some (some (.ref f_eq)))
    (i_eq : PySem.W.isFn K (.ref f_eq) = true)
    (l_eq : K.lookup f_eq = some ⟨oc_eq, od_eq, .func (PySem.W.fnOf "__eq__" "Rules.__eq__" (defArgs s_Rules___eq__) (defBody s_Rules___eq__) (defScope s_Rules___eq__) .none kV_eq dc_eq pm_eq an_eq cd_eq ct_eq), sl_eq⟩)
    (c_eq : PySem.W.codeIn K cd_eq "Rules.__eq__" = true)
    (k_eq : PySem.W.keepIn K (.ref f_eq) = true)
    (a_of : PySem.W.findCls K (.ref C) (.type "type") "of" = some (.get (.builtin "classmethod.__get__") (.ref p_of) .none (.ref C)))
    (r_of : PySem.W.recIn K p_of "classmethod" = some (.ref f_of :: rest_of))
    (i_of : PySem.W.fnIn K f_of = true)
    (l_of : K.lookup f_of = some ⟨oc_of, od_of, .func (PySem.W.fnOf "of" "Rules.of" (defArgs s_Rules_of) (defBody s_Rules_of) (defScope s_Rules_of) .none kV_of dc_of pm_of an_of cd_of ct_of), sl_of⟩)
    (c_of : PySem.W.codeIn K cd_of "Rules.of" = true)
    (k_of : PySem.W.keepIn K (.ref f_of) = true)
    (a_ao : PySem.W.findCls K (.ref C) (.type "type") "all_of" = some (.get (.builtin "classmethod.__get__") (.ref p_ao) .none (.ref C)))
    (r_ao : PySem.W.recIn K p_ao "classmethod" = some (.ref f_ao :: rest_ao))
    (i_ao : PySem.W.fnIn K f_ao = true)
    (l_ao : K.lookup f_ao = some ⟨oc_ao, od_ao, .func (PySem.W.fnOf "all_of" "Rules.all_of" (defArgs s_Rules_all_of) (defBody s_Rules_all_of) (defScope s_Rules_all_of) .none kV_ao dc_ao pm_ao an_ao cd_ao ct_ao), sl_ao⟩)
    (c_ao : PySem.W.codeIn K cd_ao "Rules.all_of" = true)
    (k_ao : PySem.W.keepIn K (.ref f_ao) = true)
    (rd : PySem.W.readsIn K C (.type "type") = true)
    (gaC : PySem.W.specialIn K (.ref C) "__getattribute__" = some (some (.builtin "type.__getattribute__")))
    (a_in : PySem.W.findIn K (.ref C) "__init__" = some (some (.ref f_in)))
    (i_in : PySem.W.isFn K (.ref f_in) = true)
    (l_in : K.lookup f_in = some ⟨oc_in, od_in, .func (PySem.W.fnOf "__init__" "Rules.__init__" (defArgs s_Rules___init__) (defBody s_Rules___init__) (defScope s_Rules___init__) (.ref T_in) kV_in dc_in pm_in an_in cd_in ct_in), sl_in⟩)
    (c_in : PySem.W.codeIn K cd_in "Rules.__init__" = true)
    (k_in : PySem.W.keepIn K (.ref f_in) = true)
    (lT : K.lookup T_in = some ⟨ocT, odT, .seq #[.ref e_in] nT, slT⟩)
    (lE : K.lookup e_in = some ⟨.type "tuple", odE, .seq #[] nE, slE⟩)
    (aC : PySem.W.nsIn K mainGlobals "Rules" = some (some (.ref C)))
    (mk : PySem.W.makesIn K C = true)
    (kC : PySem.W.keepIn K (.ref C) = true)
    (pg : PySem.W.plainGet K C Str.empty = true)
    (hd : PySem.W.hasDictIn K C = true)
    (po : PySem.W.plainOver K C = true)
    (sa : PySem.W.findIn K (.ref C) "__setattr__" = some (some (.builtin "object.__setattr__")))
    (nN : PySem.W.findIn K (.ref C) "_names" = some none)
    (nK : PySem.W.findIn K (.ref C) "_kind" = some none)
    (iA : PySem.W.findIn K (.ref C) "__class__" = some (some (.builtin "object.__class__")))
    (iN : PySem.W.specialIn K (.builtin "object.__class__") "__get__" = some (some (.builtin "getset_descriptor.__get__")))
    (iT : PySem.W.takesIn K (.builtin "object.__class__") = some true)
    (iM : PySem.W.mroIn K C (.type "object") = some true)
    (iE : PySem.W.kitOne K (.ref C) (.ref C) = some true)
    (nf : PySem.W.notFirst K C (.ref C) = true)
    (hne : PySem.W.findIn K (.ref C) "__ne__" = some (some (.builtin "object.__ne__")))
    (aF : PySem.W.nsIn K mainGlobals "FoldError" = some (some (.ref FE)))
    (lF : ∃ nm q N bs sn sub ab col dd k0 k1 k2 k3 k5, K.lookup FE = some (excClassObj nm q FE N bs PySem.HandSPX.veTail true sn sub ab col dd k0 k1 k2 k3 k5 "ValueError.__new__"))
    (tF : PySem.W.typeIn K (.ref FE) = some (.type "type"))
    (aXR : PySem.W.nsIn K mainGlobals "NoRule" = some (some (.ref CR)))
    (ecR : EC K FE CR)
    (inR : PySem.W.findIn K (.ref CR) "__init__" = some (some (.ref gR)))
    (tyR : PySem.W.typeIn K (.ref gR) = some (.type "function"))
    (fnR : ∃ (oc : Value) (od : Option Addr) (kV doc pm : Value) (an : Option Addr) (cdv ct : Value) (osl : Array (Option Value)), K.lookup gR = some ⟨oc, od, .func (PySem.W.fnOf "__init__" "NoRule.__init__" (defArgs s_NoRule___init__) (defBody s_NoRule___init__) (defScope s_NoRule___init__) .none kV doc pm an cdv ct), osl⟩ ∧ PySem.W.codeIn K cdv "NoRule.__init__" = true ∧ PySem.W.keepIn K (.ref gR) = true)
    (nxR : PySem.W.findIn K (.ref CR) "name" = some none)
    (aXK : PySem.W.nsIn K mainGlobals "NoKind" = some (some (.ref CK)))
    (ecK : EC K FE CK)
    (inK : PySem.W.findIn K (.ref CK) "__init__" = some (some (.ref gK)))
    (tyK : PySem.W.typeIn K (.ref gK) = some (.type "function"))
    (fnK : ∃ (oc : Value) (od : Option Addr) (kV doc pm : Value) (an : Option Addr) (cdv ct : Value) (osl : Array (Option Value)), K.lookup gK = some ⟨oc, od, .func (PySem.W.fnOf "__init__" "NoKind.__init__" (defArgs s_NoKind___init__) (defBody s_NoKind___init__) (defScope s_NoKind___init__) .none kV doc pm an cdv ct), osl⟩ ∧ PySem.W.codeIn K cdv "NoKind.__init__" = true ∧ PySem.W.keepIn K (.ref gK) = true)
    (nxK : PySem.W.findIn K (.ref CK) "name" = some none)
    (eRR : PySem.W.exmOne K (.ref CR) (.ref CR) = some true)
    (eKR : PySem.W.exmOne K (.ref CK) (.ref CR) = some false)
    (eKK : PySem.W.exmOne K (.ref CK) (.ref CK) = some true)
    (aR_ : PySem.W.nsIn K mainGlobals "_RULES" = some (some (.ref aR)))
    (l_R : K.lookup aR = some ⟨.type "tuple", od_R, .seq #[.str "grouping" t_R_0, .str "order" t_R_1, .str "middle" t_R_2, .str "first" t_R_3, .str "last" t_R_4, .str "ends" t_R_5, .str "keep" t_R_6, .str "take" t_R_7, .str "vanish" t_R_8] n_R, sl_R⟩)
    (aD_ : PySem.W.nsIn K mainGlobals "_RULES_OF" = some (some (.ref aD)))
    (lD : K.lookup aD = some ⟨.type "dict", none, .dict esD nD, #[]⟩)
    (d0 : PySem.W.nsIn K aD "trees" = some (some (.ref T0)))
    (l_T0 : K.lookup T0 = some ⟨.type "tuple", od_T0, .seq #[] n_T0, sl_T0⟩)
    (d1 : PySem.W.nsIn K aD "pairs" = some (some (.ref T1)))
    (l_T1 : K.lookup T1 = some ⟨.type "tuple", od_T1, .seq #[.str "order" t_T1_1] n_T1, sl_T1⟩)
    (d2 : PySem.W.nsIn K aD "words" = some (some (.ref T2)))
    (l_T2 : K.lookup T2 = some ⟨.type "tuple", od_T2, .seq #[.str "grouping" t_T2_0] n_T2, sl_T2⟩)
    (d3 : PySem.W.nsIn K aD "bags" = some (some (.ref T3)))
    (l_T3 : K.lookup T3 = some ⟨.type "tuple", od_T3, .seq #[.str "grouping" t_T3_0, .str "order" t_T3_1] n_T3, sl_T3⟩)
    (d4 : PySem.W.nsIn K aD "parity" = some (some (.ref T4)))
    (l_T4 : K.lookup T4 = some ⟨.type "tuple", od_T4, .seq #[.str "grouping" t_T4_0, .str "order" t_T4_1, .str "vanish" t_T4_8] n_T4, sl_T4⟩)
    (d5 : PySem.W.nsIn K aD "middles" = some (some (.ref T5)))
    (l_T5 : K.lookup T5 = some ⟨.type "tuple", od_T5, .seq #[.str "grouping" t_T5_0, .str "middle" t_T5_2] n_T5, sl_T5⟩)
    (d6 : PySem.W.nsIn K aD "heads" = some (some (.ref T6)))
    (l_T6 : K.lookup T6 = some ⟨.type "tuple", od_T6, .seq #[.str "grouping" t_T6_0, .str "middle" t_T6_2, .str "first" t_T6_3] n_T6, sl_T6⟩)
    (d7 : PySem.W.nsIn K aD "tails" = some (some (.ref T7)))
    (l_T7 : K.lookup T7 = some ⟨.type "tuple", od_T7, .seq #[.str "grouping" t_T7_0, .str "middle" t_T7_2, .str "last" t_T7_4] n_T7, sl_T7⟩)
    (d8 : PySem.W.nsIn K aD "sets" = some (some (.ref T8)))
    (l_T8 : K.lookup T8 = some ⟨.type "tuple", od_T8, .seq #[.str "grouping" t_T8_0, .str "order" t_T8_1, .str "middle" t_T8_2, .str "first" t_T8_3, .str "last" t_T8_4] n_T8, sl_T8⟩)
    (d9 : PySem.W.nsIn K aD "outer" = some (some (.ref T9)))
    (l_T9 : K.lookup T9 = some ⟨.type "tuple", od_T9, .seq #[.str "grouping" t_T9_0, .str "middle" t_T9_2, .str "ends" t_T9_5] n_T9, sl_T9⟩)
    (d10 : PySem.W.nsIn K aD "lefts" = some (some (.ref T10)))
    (l_T10 : K.lookup T10 = some ⟨.type "tuple", od_T10, .seq #[.str "grouping" t_T10_0, .str "middle" t_T10_2, .str "first" t_T10_3, .str "ends" t_T10_5, .str "keep" t_T10_6] n_T10, sl_T10⟩)
    (d11 : PySem.W.nsIn K aD "rights" = some (some (.ref T11)))
    (l_T11 : K.lookup T11 = some ⟨.type "tuple", od_T11, .seq #[.str "grouping" t_T11_0, .str "middle" t_T11_2, .str "last" t_T11_4, .str "ends" t_T11_5, .str "take" t_T11_7] n_T11, sl_T11⟩)
    (d12 : PySem.W.nsIn K aD "one" = some (some (.ref T12)))
    (l_T12 : K.lookup T12 = some ⟨.type "tuple", od_T12, .seq #[.str "grouping" t_T12_0, .str "order" t_T12_1, .str "middle" t_T12_2, .str "first" t_T12_3, .str "last" t_T12_4, .str "ends" t_T12_5, .str "keep" t_T12_6, .str "take" t_T12_7, .str "vanish" t_T12_8] n_T12, sl_T12⟩)
    (o0 : PySem.W.nsIn K aD "" = some none)
    (o1 : PySem.W.nsIn K aD "tree" = some none)
    (o2 : PySem.W.nsIn K aD "Trees" = some none)
    (o3 : PySem.W.nsIn K aD "trees " = some none)
    (o4 : PySem.W.nsIn K aD "grouping" = some none)
    (o5 : PySem.W.nsIn K aD "keep" = some none)
    (o6 : PySem.W.nsIn K aD "none" = some none)
    (o7 : PySem.W.nsIn K aD "ones" = some none)
    (o8 : PySem.W.nsIn K aD "rules" = some none)
    (z_list : PySem.W.nsIn K mainGlobals "list" = some none)
    (z_all : PySem.W.nsIn K mainGlobals "all" = some none)
    (z_tuple : PySem.W.nsIn K mainGlobals "tuple" = some none)
    (z_isinstance : PySem.W.nsIn K mainGlobals "isinstance" = some none)
    (z_int : PySem.W.nsIn K mainGlobals "int" = some none)
    (z_len : PySem.W.nsIn K mainGlobals "len" = some none)
    (z_abs : PySem.W.nsIn K mainGlobals "abs" = some none)
    (z_min : PySem.W.nsIn K mainGlobals "min" = some none)
    (z_range : PySem.W.nsIn K mainGlobals "range" = some none)
    (z_repr : PySem.W.nsIn K mainGlobals "repr" = some none)
    (z_bool : PySem.W.nsIn K mainGlobals "bool" = some none)
    (z_ValueError : PySem.W.nsIn K mainGlobals "ValueError" = some none)
    (hTL : h.get? PL = some { cls := .none, data := .fields #[] })
    (hTQ : h.get? PQ = some { cls := .none, data := .fields #[] })
    (hNL : K.lookup PL = none)
    (hNQ : K.lookup PQ = none)
    (hHL : PySem.W.CodeHd h cL PL)
    (hHQ : PySem.W.CodeHd h cQ PQ)
    (hPP : PL ≠ PQ)
    (hRK : CR ≠ CK)
    (hFE : FE ∉ [CR, CK])
    (hkeys : esD.toList.map keyTxt = kS.map some)
    (hlits : PySem.W.KeysLit w.params esD.toList)
    (hlow : (aD == sysModules) = false)
    : LawG l w K 10 63 "script" mg fa h := by
  have e := hfa.symm.trans (PySem.W.mg_of X G a_la)
  cases e
  have F_ar := fun_mk (st := s_all_rules) l_ar c_ar k_ar
  have b_ar := F_ar.binds (ps := ([] : List Str)) fun _ _ _ _ _ _ us hl => match us, hl with | [], _ => rfl
  have F_ak := fun_mk (st := s_all_kinds) l_ak c_ak k_ak
  have b_ak := F_ak.binds (ps := ([] : List Str)) fun _ _ _ _ _ _ us hl => match us, hl with | [], _ => rfl
  have F_ro := fun_mk (st := s_rules_of) l_ro c_ro k_ro
  have b_ro := F_ro.binds (ps := ["kind"]) fun _ _ _ _ _ _ us hl => match us, hl with | [_], _ => rfl
  have F_ha := fun_mk (st := s__has_all) l_ha c_ha k_ha
  have b_ha := F_ha.binds (ps := ["rules", "names"]) fun _ _ _ _ _ _ us hl => match us, hl with | [_, _], _ => rfl
  have F_wk := fun_mk (st := s__weakest_kind) l_wk c_wk k_wk
  have b_wk := F_wk.binds (ps := ["names"]) fun _ _ _ _ _ _ us hl => match us, hl with | [_], _ => rfl
  have F_pe := fun_mk (st := s__law_pen) l_pe c_pe k_pe
  have b_pe := F_pe.binds (ps := ["script"]) fun _ _ _ _ _ _ us hl => match us, hl with | [_], _ => rfl
  have F_dr := fun_mk (st := s__law_draw) l_dr c_dr k_dr
  have b_dr := F_dr.binds (ps := ["pen", "span"]) fun _ _ _ _ _ _ us hl => match us, hl with | [_, _], _ => rfl
  have F_pi := fun_mk (st := s__law_pick) l_pi c_pi k_pi
  have b_pi := F_pi.binds (ps := ["pen", "options"]) fun _ _ _ _ _ _ us hl => match us, hl with | [_, _], _ => rfl
  have F_sh := fun_mk (st := s__law_shuffled) l_sh c_sh k_sh
  have b_sh := F_sh.binds (ps := ["pen", "items"]) fun _ _ _ _ _ _ us hl => match us, hl with | [_, _], _ => rfl
  have F_ni := fun_mk (st := s__law_nine) l_ni c_ni k_ni
  have b_ni := F_ni.binds (ps := ([] : List Str)) fun _ _ _ _ _ _ us hl => match us, hl with | [], _ => rfl
  have F_th := fun_mk (st := s__law_thirteen) l_th c_th k_th
  have b_th := F_th.binds (ps := ([] : List Str)) fun _ _ _ _ _ _ us hl => match us, hl with | [], _ => rfl
  have F_fw := fun_mk (st := s__law_few) l_fw c_fw k_fw
  have b_fw := F_fw.binds (ps := ["pen", "items", "span"]) fun _ _ _ _ _ _ us hl => match us, hl with | [_, _, _], _ => rfl
  have F_rf := fun_mk (st := s__law_refused) l_rf c_rf k_rf
  have b_rf := F_rf.binds (ps := ["call"]) fun _ _ _ _ _ _ us hl => match us, hl with | [_], _ => rfl
  have F_lo := fun_mk (st := s__law_of) l_lo c_lo k_lo
  have b_lo := F_lo.binds (ps := ["some"]) fun _ _ _ _ _ _ us hl => match us, hl with | [_], _ => rfl
  have F_kr := fun_mk (st := s__law_kinds_right) l_kr c_kr k_kr
  have b_kr := F_kr.binds (ps := ["pen"]) fun _ _ _ _ _ _ us hl => match us, hl with | [_], _ => rfl
  have F_li := fun_mk (st := s_Rules_listed) l_li c_li k_li
  have b_li := F_li.binds (ps := ["self"]) fun _ _ _ _ _ _ us hl => match us, hl with | [_], _ => rfl
  have F_ln := fun_mk (st := s_Rules___len__) l_ln c_ln k_ln
  have b_ln := F_ln.binds (ps := ["self"]) fun _ _ _ _ _ _ us hl => match us, hl with | [_], _ => rfl
  have F_bo := fun_mk (st := s_Rules___bool__) l_bo c_bo k_bo
  have b_bo := F_bo.binds (ps := ["self"]) fun _ _ _ _ _ _ us hl => match us, hl with | [_], _ => rfl
  have F_eq := fun_mk (st := s_Rules___eq__) l_eq c_eq k_eq
  have b_eq := F_eq.binds (ps := ["self", "other"]) fun _ _ _ _ _ _ us hl => match us, hl with | [_, _], _ => rfl
  have F_of := fun_mk (st := s_Rules_of) l_of c_of k_of
  have F_ao := fun_mk (st := s_Rules_all_of) l_ao c_ao k_ao
  have b_ao := F_ao.binds (ps := ["cls", "kind"]) fun _ _ _ _ _ _ us hl => match us, hl with | [_, _], _ => rfl
  have k13 : ∀ j ∈ K13, j < 13 := by decide
  have dI : ∀ k ∈ K13, KDct K w aD (kn k) (.ref ([T0, T1, T2, T3, T4, T5, T6, T7, T8, T9, T10, T11, T12].getD k T0)) := by
    intro k hk
    match k, hk with
    | 0, _ => exact ⟨esD, nD, _, lD, hlits, d0, rfl⟩
    | 1, _ => exact ⟨esD, nD, _, lD, hlits, d1, rfl⟩
    | 2, _ => exact ⟨esD, nD, _, lD, hlits, d2, rfl⟩
    | 3, _ => exact ⟨esD, nD, _, lD, hlits, d3, rfl⟩
    | 4, _ => exact ⟨esD, nD, _, lD, hlits, d4, rfl⟩
    | 5, _ => exact ⟨esD, nD, _, lD, hlits, d5, rfl⟩
    | 6, _ => exact ⟨esD, nD, _, lD, hlits, d6, rfl⟩
    | 7, _ => exact ⟨esD, nD, _, lD, hlits, d7, rfl⟩
    | 8, _ => exact ⟨esD, nD, _, lD, hlits, d8, rfl⟩
    | 9, _ => exact ⟨esD, nD, _, lD, hlits, d9, rfl⟩
    | 10, _ => exact ⟨esD, nD, _, lD, hlits, d10, rfl⟩
    | 11, _ => exact ⟨esD, nD, _, lD, hlits, d11, rfl⟩
    | 12, _ => exact ⟨esD, nD, _, lD, hlits, d12, rfl⟩
    | k + 13, hk => exact absurd (k13 _ hk) (by omega)
  have sT : ∀ k ∈ K13, ∀ H, SqT K H ([T0, T1, T2, T3, T4, T5, T6, T7, T8, T9, T10, T11, T12].getD k T0) ((rS (KR k)).map V.str) := by
    intro k hk H
    match k, hk with
    | 0, _ => exact .inr ⟨_, _, _, l_T0, rfl, rfl, (show 0 ≤ sizeLine by decide), (by repeat' (first | exact .nil | refine .cons ⟨_, rfl⟩ ?_))⟩
    | 1, _ => exact .inr ⟨_, _, _, l_T1, rfl, rfl, (show 1 ≤ sizeLine by decide), (by repeat' (first | exact .nil | refine .cons ⟨_, rfl⟩ ?_))⟩
    | 2, _ => exact .inr ⟨_, _, _, l_T2, rfl, rfl, (show 1 ≤ sizeLine by decide), (by repeat' (first | exact .nil | refine .cons ⟨_, rfl⟩ ?_))⟩
    | 3, _ => exact .inr ⟨_, _, _, l_T3, rfl, rfl, (show 2 ≤ sizeLine by decide), (by repeat' (first | exact .nil | refine .cons ⟨_, rfl⟩ ?_))⟩
    | 4, _ => exact .inr ⟨_, _, _, l_T4, rfl, rfl, (show 3 ≤ sizeLine by decide), (by repeat' (first | exact .nil | refine .cons ⟨_, rfl⟩ ?_))⟩
    | 5, _ => exact .inr ⟨_, _, _, l_T5, rfl, rfl, (show 2 ≤ sizeLine by decide), (by repeat' (first | exact .nil | refine .cons ⟨_, rfl⟩ ?_))⟩
    | 6, _ => exact .inr ⟨_, _, _, l_T6, rfl, rfl, (show 3 ≤ sizeLine by decide), (by repeat' (first | exact .nil | refine .cons ⟨_, rfl⟩ ?_))⟩
    | 7, _ => exact .inr ⟨_, _, _, l_T7, rfl, rfl, (show 3 ≤ sizeLine by decide), (by repeat' (first | exact .nil | refine .cons ⟨_, rfl⟩ ?_))⟩
    | 8, _ => exact .inr ⟨_, _, _, l_T8, rfl, rfl, (show 5 ≤ sizeLine by decide), (by repeat' (first | exact .nil | refine .cons ⟨_, rfl⟩ ?_))⟩
    | 9, _ => exact .inr ⟨_, _, _, l_T9, rfl, rfl, (show 3 ≤ sizeLine by decide), (by repeat' (first | exact .nil | refine .cons ⟨_, rfl⟩ ?_))⟩
    | 10, _ => exact .inr ⟨_, _, _, l_T10, rfl, rfl, (show 5 ≤ sizeLine by decide), (by repeat' (first | exact .nil | refine .cons ⟨_, rfl⟩ ?_))⟩
    | 11, _ => exact .inr ⟨_, _, _, l_T11, rfl, rfl, (show 5 ≤ sizeLine by decide), (by repeat' (first | exact .nil | refine .cons ⟨_, rfl⟩ ?_))⟩
    | 12, _ => exact .inr ⟨_, _, _, l_T12, rfl, rfl, (show 9 ≤ sizeLine by decide), (by repeat' (first | exact .nil | refine .cons ⟨_, rfl⟩ ?_))⟩
    | k + 13, hk => exact absurd (k13 _ hk) (by omega)
  have sR : ∀ H, SqT K H aR ((rS R9).map V.str) := fun H => .inr ⟨_, _, _, l_R, rfl, rfl, (show 9 ≤ sizeLine by decide), (by repeat' (first | exact .nil | refine .cons ⟨_, rfl⟩ ?_))⟩
  have hda : ∀ H, SqT K H e_in [] := fun H => .inr ⟨_, _, _, lE, rfl, rfl, (show 0 ≤ sizeLine by decide), .nil⟩
  have TX : TxR K w mg aR aD C (fun k => [T0, T1, T2, T3, T4, T5, T6, T7, T8, T9, T10, T11, T12].getD k T0) :=
    ⟨PySem.W.mg_of X G aR_, PySem.W.mg_of X G aD_, PySem.W.mg_of X G aC, sR, ⟨⟨esD, nD, lD, hkeys⟩, hlow⟩, ⟨esD, nD, ⟨lD, hlits, hlow⟩⟩,
      dI, sT, ⟨pg, hd, po, sa⟩, nN, nK, PySem.W.mg_none_of X G z_list, PySem.W.mg_none_of X G z_all, PySem.W.mg_none_of X G z_tuple, PySem.W.mg_none_of X G z_isinstance⟩
  have hodd : ∀ z ∈ oddK, PySem.W.nsIn K aD z = some none := by
    intro z hz
    simp only [oddK, List.mem_cons, List.not_mem_nil, or_false] at hz
    rcases hz with rfl | rfl | rfl | rfl | rfl | rfl | rfl | rfl | rfl
    · exact o0
    · exact o1
    · exact o2
    · exact o3
    · exact o4
    · exact o5
    · exact o6
    · exact o7
    · exact o8
  have F_in : FunD K "__init__" "Rules.__init__" (defArgs s_Rules___init__) (defBody s_Rules___init__) (defScope s_Rules___init__) [V.ref e_in] [] f_in _ :=
    ⟨⟨oc_in, od_in, .ref T_in, kV_in, dc_in, pm_in, an_in, cd_in, ct_in, sl_in, rfl, l_in, c_in, .inr ⟨by simp, T_in, _, [.ref e_in], nT, rfl, lT, rfl, .cons rfl .nil⟩, .inl rfl⟩, k_in⟩
  obtain ⟨ds, hds, b_in⟩ := FunD.binds1 (ps := ["self", "names"]) F_in 2 1 (by simp) rfl (fun T kV doc pm an cdv ct us its hu hi => match us, hu, its, hi with | [_, _], _, [_], _ => ⟨_, rfl, rfl⟩)
  cases hds
  obtain ⟨ds0, hds0, b_in0⟩ := FunD.binds1 (ps := ["self", "names"]) F_in 1 0 (by simp) rfl (fun T kV doc pm an cdv ct us its hu hi => match us, hu, its, hi with | [_], _, [_], _ => ⟨_, rfl, rfl⟩)
  have fam : EFam K FE [CR, CK] := ⟨by simp [hRK], hFE, by obtain ⟨nm, q, N, bs, sn, sub, ab, col, dd, k0, k1, k2, k3, k5, hF⟩ := lF; unfold PySem.W.clsIn; rw [hF] <;> rfl, tF, iN, iT, fun C hC => by
    simp only [List.mem_cons, List.not_mem_nil, or_false] at hC
    rcases hC with rfl | rfl
    · exact ecR
    · exact ecK⟩
  have IC : C8.InsC K C := ⟨TX.cl, iA, iN, iT, iM, iE⟩
  refine ⟨PySem.W.fnOf "law" "law" (defArgs s_law) (defBody s_law) (defScope s_law) .none kV_la dc_la pm_la an_la (.ref cL) ct_la, [(cL, PL), (cQ, PQ)], spLawK K [(PL, "law" ++ ".<locals>." ++ "<lambda>"), (PQ, "_law_kinds_right" ++ ".<locals>." ++ "<lambda>")], fun p hp => ?_, fun p hp => ?_, fun p hp => ?_, fun s v => .of_eq rfl, fun H a ns hn _ hH hS => ?_, fun base _ _ hB => ?_⟩
  · rcases List.mem_cons.mp hp with rfl | hp
    · exact hTL
    · rw [List.mem_singleton.mp hp]
      exact hTQ
  · rcases List.mem_cons.mp hp with rfl | hp
    · exact hNL
    · rw [List.mem_singleton.mp hp]
      exact hNQ
  · rcases List.mem_cons.mp hp with rfl | hp
    · exact hHL
    · rw [List.mem_singleton.mp hp]
      exact hHQ
  · refine ⟨a, ns, rfl, hS, hn, fun p hp => ?_, fun _ => rfl⟩
    rcases List.mem_cons.mp hp with rfl | hp
    · exact LamX.TabS.nil (hH (cL, PL) List.mem_cons_self)
    · rw [List.mem_singleton.mp hp]
      exact LamX.TabS.nil (hH (cQ, PQ) (List.mem_cons_of_mem _ List.mem_cons_self))
  have MKL : Mak base mg [(PL, "law" ++ ".<locals>." ++ "<lambda>"), (PQ, "_law_kinds_right" ++ ".<locals>." ++ "<lambda>")] (.ref cL) ("law" ++ ".<locals>." ++ "<lambda>") := ⟨cL, PL, rfl, hB (cL, PL) List.mem_cons_self, List.mem_cons_self, fun p hp e => by
    rcases List.mem_cons.mp hp with rfl | hp
    · rfl
    · rw [List.mem_singleton.mp hp] at e
      exact absurd e.symm hPP⟩
  have MKQ : Mak base mg [(PL, "law" ++ ".<locals>." ++ "<lambda>"), (PQ, "_law_kinds_right" ++ ".<locals>." ++ "<lambda>")] (.ref cQ) ("_law_kinds_right" ++ ".<locals>." ++ "<lambda>") := ⟨cQ, PQ, rfl, hB (cQ, PQ) (List.mem_cons_of_mem _ List.mem_cons_self), List.mem_cons_of_mem _ List.mem_cons_self, fun p hp e => by
    rcases List.mem_cons.mp hp with rfl | hp
    · exact absurd e hPP
    · rw [List.mem_singleton.mp hp]⟩
  have XR : Xe l.prog w K mg base CR "name" := by
    obtain ⟨oc, od, kV, doc, pm, an, cdv, ct, osl, h1, h2, h3⟩ := fnR
    have F := fun_mk (st := s_NoRule___init__) h1 h2 h3
    exact ⟨gR, _, ecR.oex, inR, tyR, F.binds (ps := ["self", "name"]) fun _ _ _ _ _ _ us hl => match us, hl with | [_, _], _ => rfl, ok_NoRule F ecR nxR⟩
  have XK : Xe l.prog w K mg base CK "name" := by
    obtain ⟨oc, od, kV, doc, pm, an, cdv, ct, osl, h1, h2, h3⟩ := fnK
    have F := fun_mk (st := s_NoKind___init__) h1 h2 h3
    exact ⟨gK, _, ecK.oex, inK, tyK, F.binds (ps := ["self", "name"]) fun _ _ _ _ _ _ us hl => match us, hl with | [_, _], _ => rfl, ok_NoKind F ecK nxK⟩
  have D_ha : Dn l.prog w K mg base 1 "_has_all" ["rules", "names"] (spHas K) := ⟨f_ha, _, PySem.W.mg_of X G a_ha, k_ha, b_ha, ok_has_all F_ha TX⟩
  have D_wk : Dn l.prog w K mg base 2 "_weakest_kind" ["names"] (spWeak K) := ⟨f_wk, _, PySem.W.mg_of X G a_wk, k_wk, b_wk, ok_weakest F_wk TX D_ha⟩
  have D_pe : Dn l.prog w K mg base 1 "_law_pen" ["script"] (spPen K) := ⟨f_pe, _, PySem.W.mg_of X G a_pe, k_pe, b_pe, ok_pen F_pe (PySem.W.mg_none_of X G z_list)⟩
  have D_dr : Dn l.prog w K mg base 1 "_law_draw" ["pen", "span"] spDraw := ⟨f_dr, _, PySem.W.mg_of X G a_dr, k_dr, b_dr, ok_draw F_dr (PySem.W.mg_none_of X G z_int) (PySem.W.mg_none_of X G z_len) (PySem.W.mg_none_of X G z_abs)⟩
  have D_pi : Dn l.prog w K mg base 2 "_law_pick" ["pen", "options"] spPick := ⟨f_pi, _, PySem.W.mg_of X G a_pi, k_pi, b_pi, ok_pick F_pi D_dr (PySem.W.mg_none_of X G z_len)⟩
  have D_sh : Dn l.prog w K mg base 2 "_law_shuffled" ["pen", "items"] spShufN := ⟨f_sh, _, PySem.W.mg_of X G a_sh, k_sh, b_sh, ok_shuffled F_sh D_dr (PySem.W.mg_none_of X G z_len) (PySem.W.mg_none_of X G z_list)⟩
  have D_ni : Dn l.prog w K mg base 1 "_law_nine" [] spNine := ⟨f_ni, _, PySem.W.mg_of X G a_ni, k_ni, b_ni, ok_nine F_ni⟩
  have D_th : Dn l.prog w K mg base 2 "_law_thirteen" [] spThir := ⟨f_th, _, PySem.W.mg_of X G a_th, k_th, b_th, ok_thirteen F_th D_ni⟩
  have D_fw : Dn l.prog w K mg base 2 "_law_few" ["pen", "items", "span"] spFew := ⟨f_fw, _, PySem.W.mg_of X G a_fw, k_fw, b_fw, ok_few F_fw D_dr (PySem.W.mg_none_of X G z_len) (PySem.W.mg_none_of X G z_list) (PySem.W.mg_none_of X G z_int) (PySem.W.mg_none_of X G z_min) (PySem.W.mg_none_of X G z_range)⟩
  have D_ar : Dn l.prog w K mg base 1 "all_rules" [] spAllR := ⟨f_ar, _, PySem.W.mg_of X G a_ar, k_ar, b_ar, ok_all_rules F_ar TX⟩
  have D_ak : Dn l.prog w K mg base 1 "all_kinds" [] spAllK := ⟨f_ak, _, PySem.W.mg_of X G a_ak, k_ak, b_ak, ok_all_kinds F_ak TX⟩
  have D_ro : De l.prog w K mg base 3 "rules_of" ["kind"] (spRulesOfE CK) := ⟨f_ro, _, PySem.W.mg_of X G a_ro, k_ro, b_ro, ok_rules_ofE F_ro TX hodd (PySem.W.mg_of X G aXK) XK⟩
  have N : Ke l.prog w K mg base 3 C ["self", "names"] [.ref e_in] (spIn K C CR) := ⟨f_in, _, ds0, ⟨mk, a_in, i_in, kC⟩, b_in, b_in0, hds0, FnOk.or (ok_initL F_in TX D_wk (PySem.W.mg_of X G aXR) XR) (ok_initT F_in TX D_wk (PySem.W.mg_of X G aXR) XR)⟩
  have M_li : Mn l.prog w K mg base 1 C "listed" ["self"] (spListedN C) := ⟨f_li, _, ⟨a_li, i_li, k_li⟩, b_li, ok_listedN F_li TX⟩
  have M_ln : Mn l.prog w K mg base 1 C "__len__" ["self"] (spLen C) := ⟨f_ln, _, ⟨a_ln, i_ln, k_ln⟩, b_ln, ok_len F_ln TX (PySem.W.mg_none_of X G z_len)⟩
  have M_bo : Mn l.prog w K mg base 1 C "__bool__" ["self"] (spBool C) := ⟨f_bo, _, ⟨a_bo, i_bo, k_bo⟩, b_bo, ok_bool F_bo TX (PySem.W.mg_none_of X G z_bool)⟩
  have M_eq : Mn l.prog w K mg base 1 C "__eq__" ["self", "other"] (spEq C) := ⟨f_eq, _, ⟨a_eq, i_eq, k_eq⟩, b_eq, ok_eq F_eq TX IC⟩
  have CE_of : Ce l.prog w K mg base 5 C "of" (spOf C CR) := ⟨.type "type", p_of, f_of, ⟨rd, gaC⟩, ⟨a_of, ⟨_, r_of⟩, i_of⟩, ok_of F_of N⟩
  have CE_ao : Ce l.prog w K mg base 5 C "all_of" (spAllOf C CK) := ⟨.type "type", p_ao, f_ao, ⟨rd, gaC⟩, ⟨a_ao, ⟨_, r_ao⟩, i_ao⟩, FnR.imp ((ok_all_of F_ao N D_ro).raw b_ao .nil) (fun vs H Q E h => by rw [List.append_nil]; exact h)⟩
  have L_ref : LcOk l.prog w K mg base "_law_refused" (TTref CR CK) := ok_refused F_rf fam (PySem.W.mg_of X G a_rf) k_rf b_rf eRR eKR eKK nxR nxK hRK (PySem.W.mg_of X G aXR) (PySem.W.mg_of X G aXK) (PySem.W.mg_of X G aF) (PySem.W.mg_none_of X G z_isinstance) (PySem.W.mg_none_of X G z_ValueError)
  have D_lo : Dn l.prog w K mg base 6 "_law_of" ["some"] (spLawOf C) := ⟨f_lo, _, PySem.W.mg_of X G a_lo, k_lo, b_lo, ok_law_of F_lo CE_of (PySem.W.mg_of X G aC) (PySem.W.mg_none_of X G z_len)⟩
  have D_kr : DnG l.prog w K mg base 9 "_law_kinds_right" ["pen"] (spKR [(PL, "law" ++ ".<locals>." ++ "<lambda>"), (PQ, "_law_kinds_right" ++ ".<locals>." ++ "<lambda>")]) := ⟨f_kr, _, (PySem.W.mg_of X G a_kr), k_kr, b_kr, ok_kinds l_kr c_kr MKQ TX nf (PySem.W.mg_none_of X G z_repr) (PySem.W.mg_of X G aC) D_pi D_ni D_th D_ar D_ak D_ro N M_li M_eq CE_ao L_ref⟩
  exact ok_law l_la c_la MKL TX nf hne iM (PySem.W.mg_none_of X G z_repr) (PySem.W.mg_of X G aC) (PySem.W.mg_none_of X G z_len) (PySem.W.mg_none_of X G z_list) (PySem.W.mg_none_of X G z_tuple) (PySem.W.mg_none_of X G z_bool) (PySem.W.mg_none_of X G z_range) D_pe D_dr D_pi D_sh D_fw D_ni D_lo D_kr N hda M_li M_eq M_ln M_bo CE_of L_ref
end Fp

namespace Fp
open PySem PySem.Spec PyProof.Rows L2 ClX
local macro_rules | `(tactic| walk_at "rd") => `(tactic| simp only [cxK, cxKn, tRet, tRetN, rIntI, rIntB, rLenL, rListL, rListT, rAbs, tDisp, tPairs, tC, tCB, tCons, tNil, tSl, tVar, tNoPart, tPart, rSlL, tOp, tAsg, gName, tIfS, tDrop, tTest, tAnd, tOr, Evl.tCut, tNot, tB, rI0, rI, rIxL, rIxT, rIxD, tDGet, sDPut, tLst, tTup, tBM, tBM0, tPar, rAppend, rPopAt, rPop, rExtend, rTupL, tCall, tNext, rAll, rOwnIn, rOwn2, rCat, lc_iL, lc_iT, lc_iK, lc_iR, lc_iE, fr_iL, fr_iT, fr_iR, tYes, rIn, rEq, rNe, gTup, gCons, gNil, wipe, tMeth, tFld, sFld, tMake, tProp, tIf, tAndV, tOrV, tNotV, tTru, rIsi, rSum, tRevL, rU, tUn, rIxS, iEnum, if_true, if_false, Bool.false_eq_true, List.map_cons, List.map_nil, List.nil_append, List.append_nil, List.cons_append, List.getElem?_cons_zero, List.getElem?_cons_succ, Option.some.injEq, exists_and_left, exists_eq_left', exists_eq_left, List.cons.injEq, and_true, true_and, V.ref.injEq, V.int.injEq, V.str.injEq, V.bl.injEq, List.set_cons_zero, List.set_cons_succ])
end Fp
open PySem PySem.W PyProof.Rows
set_option maxHeartbeats 0 in
theorem PySem.Challenge.cw_foldplans_k01_rules_made_holds : PySem.Challenge.rw_foldplans_k01_rules_made.Holds := by
  w_on; o_law; k_head; (case hw => w_witness2)
  k_fill
  refine Fp.walk_ofG (l := PySem.Challenge.rw_foldplans_k01_rules_made) (n := 63) (k := 10) (x := "script") rfl (by decide) rfl ⟨⟨rfl, by decide, by decide⟩, rfl⟩ (fun w h Y => PySem.W.km_in_of Y) ?F
  case F =>
    intro w mg fa h Y KX G hmg
    have hT8 := PySem.W.km_tabs_of Y
    refine' Fp.all_mk KX G hmg ?a_ar ?l_ar ?c_ar ?k_ar ?a_ak ?l_ak ?c_ak ?k_ak ?a_ro ?l_ro ?c_ro ?k_ro ?a_ha ?l_ha ?c_ha ?k_ha ?a_wk ?l_wk ?c_wk ?k_wk ?a_pe ?l_pe ?c_pe ?k_pe ?a_dr ?l_dr ?c_dr ?k_dr ?a_pi ?l_pi ?c_pi ?k_pi ?a_sh ?l_sh ?c_sh ?k_sh ?a_ni ?l_ni ?c_ni ?k_ni ?a_th ?l_th ?c_th ?k_th ?a_fw ?l_fw ?c_fw ?k_fw ?a_rf ?l_rf ?c_rf ?k_rf ?a_kr ?l_kr ?c_kr ?k_kr ?a_lo ?l_lo ?c_lo ?k_lo ?a_la ?l_la ?c_la ?k_la ?a_li ?i_li ?l_li ?c_li ?k_li ?a_ln ?i_ln ?l_ln ?c_ln ?k_ln ?a_bo ?i_bo ?l_bo ?c_bo ?k_bo ?a_eq ?i_eq ?l_eq ?c_eq ?k_eq ?a_of ?r_of ?i_of ?l_of ?c_of ?k_of ?a_ao ?r_ao ?i_ao ?l_ao ?c_ao ?k_ao ?rd ?gaC ?a_in ?i_in ?l_in ?c_in ?k_in ?lT ?lE ?aC ?mk ?kC ?pg ?hd ?po ?sa ?nN ?nK ?iA ?iN ?iT ?iM ?iE ?nf ?hne ?aF ?lF ?tF ?aXR ?ecR ?inR ?tyR ?fnR ?nxR ?aXK ?ecK ?inK ?tyK ?fnK ?nxK ?eRR ?eKR ?eKK ?aR_ ?l_R ?aD_ ?lD ?d0 ?l_T0 ?d1 ?l_T1 ?d2 ?l_T2 ?d3 ?l_T3 ?d4 ?l_T4 ?d5 ?l_T5 ?d6 ?l_T6 ?d7 ?l_T7 ?d8 ?l_T8 ?d9 ?l_T9 ?d10 ?l_T10 ?d11 ?l_T11 ?d12 ?l_T12 ?o0 ?o1 ?o2 ?o3 ?o4 ?o5 ?o6 ?o7 ?o8 ?z_list ?z_all ?z_tuple ?z_isinstance ?z_int ?z_len ?z_abs ?z_min ?z_range ?z_repr ?z_bool ?z_ValueError ?hTL ?hTQ ?hNL ?hNQ ?hHL ?hHQ ?hPP ?hRK ?hFE ?hkeys ?hlits ?hlow
    (case aC => k_is)
    (case aR_ => k_is)
    (case aD_ => k_is)
    (case aF => k_is)
    (case aXR => k_is)
    (case aXK => k_is)
    (case a_ar => k_is)
    (case l_ar => k_is)
    (case c_ar => k_is)
    (case k_ar => k_is)
    (case a_ak => k_is)
    (case l_ak => k_is)
    (case c_ak => k_is)
    (case k_ak => k_is)
    (case a_ro => k_is)
    (case l_ro => k_is)
    (case c_ro => k_is)
    (case k_ro => k_is)
    (case a_ha => k_is)
    (case l_ha => k_is)
    (case c_ha => k_is)
    (case k_ha => k_is)
    (case a_wk => k_is)
    (case l_wk => k_is)
    (case c_wk => k_is)
    (case k_wk => k_is)
    (case a_pe => k_is)
    (case l_pe => k_is)
    (case c_pe => k_is)
    (case k_pe => k_is)
    (case a_dr => k_is)
    (case l_dr => k_is)
    (case c_dr => k_is)
    (case k_dr => k_is)
    (case a_pi => k_is)
    (case l_pi => k_is)
    (case c_pi => k_is)
    (case k_pi => k_is)
    (case a_sh => k_is)
    (case l_sh => k_is)
    (case c_sh => k_is)
    (case k_sh => k_is)
    (case a_ni => k_is)
    (case l_ni => k_is)
    (case c_ni => k_is)
    (case k_ni => k_is)
    (case a_th => k_is)
    (case l_th => k_is)
    (case c_th => k_is)
    (case k_th => k_is)
    (case a_fw => k_is)
    (case l_fw => k_is)
    (case c_fw => k_is)
    (case k_fw => k_is)
    (case a_rf => k_is)
    (case l_rf => k_is)
    (case c_rf => k_is)
    (case k_rf => k_is)
    (case a_kr => k_is)
    (case l_kr => k_is)
    (case c_kr => k_is)
    (case k_kr => k_is)
    (case a_lo => k_is)
    (case l_lo => k_is)
    (case c_lo => k_is)
    (case k_lo => k_is)
    (case a_la => k_is)
    (case l_la => k_is)
    (case c_la => k_is)
    (case k_la => k_is)
    (case a_li => k_is)
    (case i_li => k_is)
    (case l_li => k_is)
    (case c_li => k_is)
    (case k_li => k_is)
    (case a_ln => k_is)
    (case i_ln => k_is)
    (case l_ln => k_is)
    (case c_ln => k_is)
    (case k_ln => k_is)
    (case a_bo => k_is)
    (case i_bo => k_is)
    (case l_bo => k_is)
    (case c_bo => k_is)
    (case k_bo => k_is)
    (case a_eq => k_is)
    (case i_eq => k_is)
    (case l_eq => k_is)
    (case c_eq => k_is)
    (case k_eq => k_is)
    (case a_of => k_is)
    (case r_of => k_is)
    (case i_of => k_is)
    (case l_of => k_is)
    (case c_of => k_is)
    (case k_of => k_is)
    (case a_ao => k_is)
    (case r_ao => k_is)
    (case i_ao => k_is)
    (case l_ao => k_is)
    (case c_ao => k_is)
    (case k_ao => k_is)
    (case rd => k_is)
    (case gaC => k_is)
    (case a_in => k_is)
    (case i_in => k_is)
    (case l_in => k_is)
    (case c_in => k_is)
    (case k_in => k_is)
    (case lT => k_is)
    (case lE => k_is)
    (case mk => k_is)
    (case kC => k_is)
    (case pg => k_is)
    (case hd => k_is)
    (case po => k_is)
    (case sa => k_is)
    (case nN => k_is)
    (case nK => k_is)
    (case iA => k_is)
    (case iN => k_is)
    (case iT => k_is)
    (case iM => k_is)
    (case iE => first | k_is | rfl | decide +kernel)
    (case nf => k_is)
    (case hne => k_is)
    (case lF => (repeat' apply Exists.intro); k_is)
    (case tF => k_is)
    (case ecR => refine' Fp.EC.mk (Fp.ClF.mk ?h1) ?h2 ?h3 ?h4 ?h5 ?h6; (case h1 => (repeat' apply Exists.intro); k_is); (case h2 => k_is); (case h3 => k_is); (case h4 => k_is); (case h5 => k_is); (case h6 => k_is))
    (case inR => k_is)
    (case tyR => k_is)
    (case fnR => (repeat' apply Exists.intro); refine' ⟨?h1, ?h2, ?h3⟩; (case h1 => k_is); (case h2 => k_is); (case h3 => k_is))
    (case nxR => k_is)
    (case ecK => refine' Fp.EC.mk (Fp.ClF.mk ?h1) ?h2 ?h3 ?h4 ?h5 ?h6; (case h1 => (repeat' apply Exists.intro); k_is); (case h2 => k_is); (case h3 => k_is); (case h4 => k_is); (case h5 => k_is); (case h6 => k_is))
    (case inK => k_is)
    (case tyK => k_is)
    (case fnK => (repeat' apply Exists.intro); refine' ⟨?h1, ?h2, ?h3⟩; (case h1 => k_is); (case h2 => k_is); (case h3 => k_is))
    (case nxK => k_is)
    (case eRR => first | k_is | rfl | decide +kernel)
    (case eKR => first | k_is | rfl | decide +kernel)
    (case eKK => first | k_is | rfl | decide +kernel)
    (case l_R => k_is)
    (case lD => k_is)
    (case d0 => k_is)
    (case l_T0 => k_is)
    (case d1 => k_is)
    (case l_T1 => k_is)
    (case d2 => k_is)
    (case l_T2 => k_is)
    (case d3 => k_is)
    (case l_T3 => k_is)
    (case d4 => k_is)
    (case l_T4 => k_is)
    (case d5 => k_is)
    (case l_T5 => k_is)
    (case d6 => k_is)
    (case l_T6 => k_is)
    (case d7 => k_is)
    (case l_T7 => k_is)
    (case d8 => k_is)
    (case l_T8 => k_is)
    (case d9 => k_is)
    (case l_T9 => k_is)
    (case d10 => k_is)
    (case l_T10 => k_is)
    (case d11 => k_is)
    (case l_T11 => k_is)
    (case d12 => k_is)
    (case l_T12 => k_is)
    (case o0 => k_is)
    (case o1 => k_is)
    (case o2 => k_is)
    (case o3 => k_is)
    (case o4 => k_is)
    (case o5 => k_is)
    (case o6 => k_is)
    (case o7 => k_is)
    (case o8 => k_is)
    (case z_list => k_is)
    (case z_all => k_is)
    (case z_tuple => k_is)
    (case z_isinstance => k_is)
    (case z_int => k_is)
    (case z_len => k_is)
    (case z_abs => k_is)
    (case z_min => k_is)
    (case z_range => k_is)
    (case z_repr => k_is)
    (case z_bool => k_is)
    (case z_ValueError => k_is)
    (case hTL => exact hT8 _ (List.mem_cons_of_mem _ List.mem_cons_self))
    (case hTQ => exact hT8 _ List.mem_cons_self)
    (case hNL => kernel_rfl)
    (case hNQ => kernel_rfl)
    (case hHL => exact PySem.W.codeHd_of_K KX (by kernel_rfl))
    (case hHQ => exact PySem.W.codeHd_of_K KX (by kernel_rfl))
    (case hPP => decide)
    (case hRK => decide)
    (case hFE => decide)
    (case hkeys => rfl)
    (case hlits => repeat' (first | exact trivial | refine ⟨⟨_, _, rfl, rfl⟩, ?_⟩))
    (case hlow => decide)
