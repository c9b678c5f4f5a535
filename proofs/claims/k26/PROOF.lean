import PyProof.Rows.All
import Wide.All
import OpenK.AllK
import Wide.FinOn
import HandS.ForMost
import HandS.Wide
import HandS.Conv
import HandS.Evl
import KE.KDictWalk
import HandS.SlotsOwn
import HandS.Property
import HandS.Defaults
import HandS.More
import HandS.Codes
import HandS.IsInst
import HandS.Style
import HandS.Lambda
import HandS.CallLocal
import PyProof.StrOps2
import HandS.TryMany
import HandS.ExcInit
import HandS.ExcIs
import HandS.ExcField
import KE.KExcSuper
import HandS.Iter
import PyProof.ReprRoads
import HandS.EndTab
import KE.KDictCopyH
import HandS.ClsMeth
import HandS.Star
import HandS.WordsExc
import HandS.Text
import PyProof.Rows.StrSplitJoin
import KE.KCallOwn
import KE.KOpsOwn
import PyProof.StrLawsChain
import PyProof.Rows.StrItems
import HandS.DictComp
import HandS.Nested
import HandS.SortKw
import KE.KSortKey
import HandS.Deep
import HandS.Zip
import PyProof.ZipIter
import KE.KDictZip
import HandS.NoneIn
import KE.KNestM
import PySem.Challenge.RW_foldplans_k26_tables_refused
set_option Elab.async false
set_option linter.all false
set_option maxRecDepth 100000
set_option maxHeartbeats 4000000
/-! what the laws of this program share -/
namespace Fp
open PySem PySem.Spec PyProof.Rows L2

/-! ### defs of the text, by name -/
def Dn (P : Program) (w : World) (K : PySem.W.Frag) (mg : Str → Option Value) (base : Heap) (k : Nat) (x : Str) (ps : List Str) (sp : Sp) : Prop :=
  ∃ f fd, mg x = some (.ref f) ∧ PySem.W.keepIn K (.ref f) = true ∧ Binds K fd ps [] ∧ FnOk P w K mg base CX0 k f fd ps sp
section
variable {X : Cx} {k : Nat} {x : Str} {ps : List Str} {sp : Sp} {p pos : Pos} {e : Expr} {es : List Expr} {t : TA}
theorem pd (D : Dn X.prog X.w X.K X.mg X.base k x ps sp) (hr : Room k X.A) (hg : Gl X x) (ha : PA X (e :: es) t) (hdb : (x == ("__debug__" : Str)) = false := by decide)
    (he : starEach (e :: es) X.env = (false, eval e X.env) :: starEach es X.env := by rfl) (hpl : (backTo pos (starEach es X.env)).any (·.1) = false := by rfl) :
    PE X (.Call (.Name x p) (e :: es) [] pos) (tCall sp [] E0 t) := by
  obtain ⟨f, fd, h1, h2, h3, h4⟩ := D
  exact pe_call h4 hr hg h1 h2 h3 .nil pass0 ha hdb he hpl
theorem pd0 (D : Dn X.prog X.w X.K X.mg X.base k x ps sp) (hr : Room k X.A) (hg : Gl X x) (hdb : (x == ("__debug__" : Str)) = false := by decide) :
    PE X (.Call (.Name x p) [] [] pos) (tCall sp [] E0 tNil) := by
  obtain ⟨f, fd, h1, h2, h3, h4⟩ := D
  exact pe_call0 h4 hr hg h1 h2 h3 .nil pass0 hdb
end

/-! ### heaps -/
/-- all but the object at p stays -/
def But (p : Addr) (H H' : Hp) : Prop := (∀ b o, H b = some o → b ≠ p → H' b = some o) ∧ (H p ≠ none → H' p ≠ none)
theorem But.refl (p : Addr) (H : Hp) : But p H H := ⟨fun _ _ h _ => h, fun h => h⟩
theorem But.trans {p : Addr} {H H1 H2 : Hp} (a : But p H H1) (b : But p H1 H2) : But p H H2 := ⟨fun c o h n => b.1 c o (a.1 c o h n) n, fun h => b.2 (a.2 h)⟩
theorem But.of {p : Addr} {H H' : Hp} (e : Same H H') : But p H H' := ⟨fun b o h _ => e b o h, fun h => by
  cases q : H p with
  | none => exact absurd q h
  | some o => rw [e p o q]; intro z; cases z⟩
theorem But.free {p l : Addr} {H H' : Hp} (e : But p H H') (h : H' l = none) : H l = none := by
  cases q : H l with
  | none => rfl
  | some o =>
    by_cases hl : l = p
    · subst hl
      exact absurd h (e.2 (by rw [q]; intro z; cases z))
    · rw [e.1 l o q hl] at h
      cases h
theorem But.new {p q : Addr} {H H' : Hp} {o : HO} (e : But p H H') (h : H' q = none) : But p H (upd H' q o) := e.trans (But.of fun b u hb => by
  rw [upd_ne (ne_of_none hb h)]
  exact hb)
theorem Same.new {H H' : Hp} {q : Addr} {o : HO} (e : Same H H') (h : H' q = none) : Same H (upd H' q o) := fun b u hb => by
  have h1 := e b u hb
  rw [upd_ne (ne_of_none h1 h)]
  exact h1
theorem same_new {H : Hp} {q : Addr} {o : HO} (h : H q = none) : Same H (upd H q o) := Same.new (Same.refl H) h
/-- an object that H does not know may change -/
theorem Same.mut {H H' : Hp} {p : Addr} {o : HO} (e : Same H H') (h : H p = none) : Same H (upd H' p o) := fun a u ha => by
  rw [upd_ne (ne_of_none ha h)]
  exact e a u ha
theorem But.mut {p q : Addr} {H H' : Hp} {o : HO} (e : But p H H') (h : H q = none) : But p H (upd H' q o) := ⟨fun a u ha hp => by
  rw [upd_ne (ne_of_none ha h)]
  exact e.1 a u ha hp, fun hn => by
  by_cases z : p = q
  · subst z; exact absurd h hn
  · rw [upd_ne z]; exact e.2 hn⟩

/-! ### rules with one way -/
section
variable {X : Cx}
def rIntI : List V → Hp → VK → Prop := fun xs H Q => ∃ i, xs = [.int i] ∧ Q (.int i) H
theorem call_intI : CallR X (.type "int") rIntI := fun pins s σ H xs us Q I r h => call_int1 pins s σ H xs us Q I r (.inl h)
def rIntB : List V → Hp → VK → Prop := fun xs H Q => ∃ k, xs = [.bl k] ∧ Q (.int (if k then 1 else 0)) H
theorem call_intB : CallR X (.type "int") rIntB := fun pins s σ H xs us Q I r h => call_int1 pins s σ H xs us Q I r (.inr h)
def rLenL (K : PySem.W.Frag) : List V → Hp → VK → Prop := fun xs H Q => ∃ p ys, xs = [.ref p] ∧ SqL K H p ys ∧ Q (.int ys.length) H
theorem call_lenL : CallR X (.builtin "len") (rLenL X.K) := fun pins s σ H xs us Q I r h => by
  obtain ⟨p, ys, e, h1, q⟩ := h
  exact call_len_seq pins s σ H xs us Q I r ⟨p, ys, e, .inl h1, q⟩
def rListL (K : PySem.W.Frag) : List V → Hp → VK → Prop := fun xs H Q => ∃ p ys, xs = [.ref p] ∧ SqL K H p ys ∧ ∀ l, H l = none → Q (.ref l) (upd H l (.lst ys))
theorem call_listL : CallR X (.type "list") (rListL X.K) := fun pins s σ H xs us Q I r h => by
  obtain ⟨p, ys, e, h1, q⟩ := h
  exact call_list_of pins s σ H xs us Q I r ⟨p, ys, e, .inl h1, q⟩
def rListT (K : PySem.W.Frag) : List V → Hp → VK → Prop := fun xs H Q => ∃ p ys, xs = [.ref p] ∧ SqT K H p ys ∧ ∀ l, H l = none → Q (.ref l) (upd H l (.lst ys))
theorem call_listT : CallR X (.type "list") (rListT X.K) := fun pins s σ H xs us Q I r h => by
  obtain ⟨p, ys, e, h1, q⟩ := h
  exact call_list_of pins s σ H xs us Q I r ⟨p, ys, e, .inr h1, q⟩
def rAbs : List V → Hp → VK → Prop := fun xs H Q => ∃ i, xs = [.int i] ∧ Q (.int (if i < 0 then -i else i)) H
theorem call_absI : CallR X (.builtin "abs") rAbs := call_abs
end
/-! ### dicts by written keys -/
theorem dg_s {H : Hp} {a : Addr} {kvs : List (Key × V)} {z : Str} {v : V} {R : V → Prop} (h : H a = some (.dK kvs)) (hv : valV kvs (Sum.inr z) = some v) (q : R v) : ∃ x, DGet H a (.str z) (some x) ∧ R x :=
  ⟨v, by rw [← hv]; exact DGet.k (k := Sum.inr z) h, q⟩
theorem dp_s {H : Hp} {a : Addr} {kvs : List (Key × V)} {z : Str} {v : V} {R : Hp → Prop} (h : H a = some (.dK kvs)) (hl : kvs.length < sizeLine) (q : R (upd H a (.dK (putK kvs (Sum.inr z) v)))) : ∃ H', DPut H a (.str z) v H' ∧ R H' :=
  ⟨_, DPut.k (k := Sum.inr z) h hl, q⟩
/-! ### data -/
theorem dp_ints (K : PySem.W.Frag) (H : Hp) : ∀ ns : List Int, DpAll K H (ns.map V.int) (ns.map PyData.int)
  | [] => .nil
  | n :: r => .cons (.int n) (dp_ints K H r)
theorem dp_strs (K : PySem.W.Frag) (H : Hp) : ∀ ns : List Str, DpAll K H (ns.map V.str) (ns.map PyData.str)
  | [] => .nil
  | n :: r => .cons (.str n) (dp_strs K H r)
/-- a list and a new empty list -/
theorem ne_nil {K : PySem.W.Frag} {H : Hp} {p q : Addr} {xs : List V} {ds : List PyData} {Q : VK} (hp : SqL K H p xs) (hd : DpAll K H xs ds) (hs : SeqAt.shaped (.list ds) = true) (hq : H q = some (.lst [])) (k : Q (.bl (!xs.isEmpty)) H) :
    rNeD K (.ref p) (.ref q) H Q := by
  refine ⟨.list ds, .list [], .lst hp hd, .lst (.inl (.inl hq)) .nil, hs, by decide, ?_⟩
  cases hd with
  | nil => exact k
  | cons a b => exact k
theorem eq_nil {K : PySem.W.Frag} {H : Hp} {p q : Addr} {xs : List V} {ds : List PyData} {Q : VK} (hp : SqL K H p xs) (hd : DpAll K H xs ds) (hs : SeqAt.shaped (.list ds) = true) (hq : H q = some (.lst [])) (k : Q (.bl xs.isEmpty) H) :
    rEqD K (.ref p) (.ref q) H Q := by
  refine ⟨.list ds, .list [], .lst hp hd, .lst (.inl (.inl hq)) .nil, hs, by decide, ?_⟩
  cases hd with
  | nil => exact k
  | cons a b => exact k
def Shp (n : Nat) (d : PyData) : Prop := d.canLay0 = true ∧ d.depth ≤ n
theorem shp_all {n : Nat} : ∀ {ds : List PyData}, (∀ d ∈ ds, Shp n d) → PyData.canLayAll0 ds = true ∧ PyData.depthAll ds ≤ n
  | [], _ => ⟨rfl, Nat.zero_le _⟩
  | d :: r, h => by
    obtain ⟨h1, h2⟩ := shp_all (ds := r) fun x hx => h x (List.mem_cons_of_mem _ hx)
    obtain ⟨h3, h4⟩ := h d List.mem_cons_self
    exact ⟨by show (PyData.canLay0 d && PyData.canLayAll0 r) = true; rw [h1, h3]; rfl, Nat.max_le.mpr ⟨h4, h2⟩⟩
theorem shp_lst {n : Nat} {ds : List PyData} (h : ∀ d ∈ ds, Shp n d) : Shp (n + 1) (.list ds) := ⟨(shp_all h).1, Nat.succ_le_succ (shp_all h).2⟩
theorem shp_tup {n : Nat} {ds : List PyData} (h : ∀ d ∈ ds, Shp n d) : Shp (n + 1) (.tuple ds) := ⟨(shp_all h).1, Nat.succ_le_succ (shp_all h).2⟩
theorem shp_int (i : Int) : Shp 0 (.int i) := ⟨rfl, Nat.le_refl _⟩
theorem shp_bool (b : Bool) : Shp 0 (.bool b) := ⟨rfl, Nat.le_refl _⟩
theorem shp_non : Shp 0 .none := ⟨rfl, Nat.le_refl _⟩
theorem Shp.mono {n m : Nat} {d : PyData} (h : Shp n d) (hm : n ≤ m) : Shp m d := ⟨h.1, Nat.le_trans h.2 hm⟩
theorem Shp.ok {n : Nat} {d : PyData} (h : Shp n d) (hn : n ≤ 64) : SeqAt.shaped d = true := by
  show (d.canLay0 && decide (d.depth ≤ 64)) = true
  rw [h.1, decide_eq_true (Nat.le_trans h.2 hn)]
  rfl
theorem shaped_ints (ns : List Int) : SeqAt.shaped (.list (ns.map PyData.int)) = true := (shp_lst (n := 0) fun d hd => by
  obtain ⟨i, _, rfl⟩ := List.mem_map.mp hd
  exact shp_int i).ok (by decide)
theorem ix_mod {ns : List Int} {t : Int} (h0 : ns ≠ []) : ∃ v, atI (ns.map V.int) (t % ((ns.map V.int).length : Nat)) = some (.int v) := by
  have hl : 0 < ns.length := by cases ns with
    | nil => exact absurd rfl h0
    | cons x r => exact Nat.succ_pos _
  have h1 : 0 ≤ t % (ns.length : Int) := Int.emod_nonneg _ (by omega)
  have h2 : t % (ns.length : Int) < ns.length := Int.emod_lt_of_pos _ (by omega)
  rw [List.length_map]
  obtain ⟨j, hj⟩ : ∃ j : Nat, t % (ns.length : Int) = j := ⟨(t % (ns.length : Int)).toNat, by omega⟩
  rw [hj]
  have hjl : j < ns.length := by omega
  exact ⟨ns[j], atI_nat (by rw [List.getElem?_map, List.getElem?_eq_getElem hjl]; rfl)⟩
/-! ### slices -/
theorem cut_to (xs : List V) (k : Nat) : cutV xs none (some (k : Int)) = xs.take k := by
  unfold cutV
  rw [HT.sIx_none, show HT.sIx xs.length xs.length (some (k : Int)) = min k xs.length from HT.sIx_nat _ _ k]
  show List.take (min k xs.length) xs = List.take k xs
  rcases Nat.le_total k xs.length with h | h
  · rw [Nat.min_eq_left h]
  · rw [Nat.min_eq_right h, List.take_of_length_le h, List.take_of_length_le (Nat.le_refl _)]

/-! ### the pen -/
theorem s_ct : ¬ (("cells" : Str) = "turn") := by decide
theorem s_lt : ¬ (("left" : Str) = "turn") := by decide
theorem s_cl : ¬ (("cells" : Str) = "left") := by decide
theorem s_tl : ¬ (("turn" : Str) = "left") := by decide
theorem k_ct : ¬ ((Sum.inr ("cells" : Str) : Key) = Sum.inr ("turn" : Str)) := by decide
theorem k_cl : ¬ ((Sum.inr ("cells" : Str) : Key) = Sum.inr ("left" : Str)) := by decide
theorem k_tl : ¬ ((Sum.inr ("turn" : Str) : Key) = Sum.inr ("left" : Str)) := by decide
def penK (c : Addr) (turn left : Int) : List (Key × V) := [(Sum.inr "cells", .ref c), (Sum.inr "turn", .int turn), (Sum.inr "left", .int left)]
theorem pen_cells (c : Addr) (turn left : Int) : valV (penK c turn left) (Sum.inr "cells") = some (.ref c) := by
  unfold penK
  exact valV_pos rfl
theorem pen_turn (c : Addr) (turn left : Int) : valV (penK c turn left) (Sum.inr "turn") = some (.int turn) := by
  unfold penK
  rw [valV_neg k_ct, valV_pos rfl]
theorem pen_left (c : Addr) (turn left : Int) : valV (penK c turn left) (Sum.inr "left") = some (.int left) := by
  unfold penK
  rw [valV_neg k_cl, valV_neg k_tl, valV_pos rfl]
theorem pen_putT (c : Addr) (turn left x : Int) : putK (penK c turn left) (Sum.inr ("turn" : Str)) (.int x) = penK c x left := by
  unfold putK penK
  simp [s_ct, s_lt]
theorem pen_putL (c : Addr) (turn left x : Int) : putK (penK c turn left) (Sum.inr ("left" : Str)) (.int x) = penK c turn x := by
  unfold putK penK
  simp [s_cl, s_tl]
theorem pen_len (c : Addr) (turn left : Int) : (penK c turn left).length < sizeLine := small1000 (by show 3 ≤ 1000; decide)
/-- the dict at p, the list of cells at c -/
structure PenOk (H : Hp) (p c : Addr) (t : Nat) : Prop where
  ex : ∃ (cells : List Int) (turn left : Int), H p = some (.dK (penK c turn left)) ∧
    H c = some (.lst (cells.map V.int)) ∧ cells.length ≤ 63 ∧ 0 ≤ turn ∧ turn ≤ t
theorem PenOk.mono {H : Hp} {p c : Addr} {t t' : Nat} (h : PenOk H p c t) (ht : t ≤ t') : PenOk H p c t' := by
  obtain ⟨cells, turn, left, h1, h2, h3, h4, h5⟩ := h.ex
  exact ⟨cells, turn, left, h1, h2, h3, h4, by omega⟩
theorem PenOk.dict {H : Hp} {p c : Addr} {t : Nat} (h : PenOk H p c t) : ∃ kvs, H p = some (.dK kvs) := by
  obtain ⟨cells, turn, left, h1, _⟩ := h.ex
  exact ⟨_, h1⟩
theorem PenOk.cells {H : Hp} {p c : Addr} {t : Nat} (h : PenOk H p c t) : ∃ xs, H c = some (.lst xs) := by
  obtain ⟨cells, turn, left, h1, h2, _⟩ := h.ex
  exact ⟨_, h2⟩
theorem PenOk.same {H H' : Hp} {p c : Addr} {t : Nat} (h : PenOk H p c t) (e : Same H H') : PenOk H' p c t := by
  obtain ⟨cells, turn, left, h1, h2, h3, h4, h5⟩ := h.ex
  exact ⟨cells, turn, left, e _ _ h1, e _ _ h2, h3, h4, h5⟩
theorem PenOk.mut {H : Hp} {p c l : Addr} {o : HO} {t : Nat} (h : PenOk H p c t) (h1 : l ≠ p) (h2 : l ≠ c) : PenOk (upd H l o) p c t := by
  obtain ⟨cells, turn, left, g1, g2, h3, h4, h5⟩ := h.ex
  exact ⟨cells, turn, left, by rw [upd_ne h1.symm]; exact g1, by rw [upd_ne h2.symm]; exact g2, h3, h4, h5⟩

theorem lg_small {n : Nat} (h : n < 1000000) : ((n : Nat) : Int).natAbs.log2 < 9000 := by
  have := PySem.Flt.log2_lt_of (k := 20) (by decide) (show ((n : Nat) : Int).natAbs < 2 ^ 20 by rw [Int.natAbs_natCast]; omega)
  omega
def spPen (K : PySem.W.Frag) : Sp := fun vs H Q _ => ∃ (a : Addr) (ns : List Int), vs = [.ref a] ∧ SqL K H a (ns.map V.int) ∧ ns.length ≤ 63 ∧
  ∀ H' p c, H p = none → Same H H' → PenOk H' p c 0 → Q (.ref p) H'
def spDraw : Sp := fun vs H Q _ => ∃ (p c : Addr) (span : Int) (t : Nat), vs = [.ref p, .int span] ∧ PenOk H p c t ∧ t ≤ 1000000000 ∧ 0 < span ∧ span.natAbs.log2 < 9000 ∧
  ∀ (r : Int) H', 0 ≤ r → r < span → PenOk H' p c (t + 1) → But p H H' → Q (.int r) H'
end Fp

/-! the keys of a dict that the top has written, walked -/
namespace Fp
open PySem PySem.Spec PyProof.Rows L2
def keyTxt (e : DictEntry) : Option Str := match e.key with
  | .str x _ => some x
  | _ => none
/-- the dict at d stands in the written part, its keys are the texts zs -/
structure KKeys (K : PySem.W.Frag) (d : Addr) (zs : List Str) : Prop where
  ex : ∃ (es : Array DictEntry) (n : Nat), K.lookup d = some ⟨.type "dict", none, .dict es n, #[]⟩ ∧ es.toList.map keyTxt = zs.map some
  low : (d == sysModules) = false
theorem KKeys.at {K : PySem.W.Frag} {d : Addr} {zs : List Str} {es : Array DictEntry} {n : Nat} (h : es.toList.map keyTxt = zs.map some) : es.size = zs.length ∧ ∀ (i : Nat) (hi : i < es.size), ∃ z t, zs[i]? = some z ∧ es[i].key = .str z t := by
  have hl : es.size = zs.length := by
    have := congrArg List.length h
    rw [List.length_map, List.length_map] at this
    simpa using this
  refine ⟨hl, fun i hi => ?_⟩
  have hz : i < zs.length := hl ▸ hi
  have e := congrArg (fun l => l[i]?) h
  simp only [List.getElem?_map] at e
  rw [show es.toList[i]? = some es[i] by simp [hi], List.getElem?_eq_getElem hz] at e
  have e2 : keyTxt es[i] = some zs[i] := Option.some.inj e
  refine ⟨zs[i], ?_⟩
  unfold keyTxt at e2
  split at e2
  · rename_i x t hk
    exact ⟨t, List.getElem?_eq_getElem hz, by rw [hk, Option.some.inj e2]⟩
  · cases e2
/-- the keys in their order -/
def ItKK (zs : List Str) : It := ⟨fun i _ => i < zs.length, fun i H x H' => H' = H ∧ ∃ z, zs[i]? = some z ∧ x = .str z, fun i _ => zs.length ≤ i⟩
section
variable {P : Program} {w : World} {K : PySem.W.Frag} {tg : Expr}
theorem turn_kk {d it : Addr} {zs : List Str} {es : Array DictEntry} {n : Nat} (hl : K.lookup d = some ⟨.type "dict", none, .dict es n, #[]⟩) (hk : es.toList.map keyTxt = zs.map some) :
    Turn P w K tg (ItKK zs) [it] it (fun i h => h.IsKeyIter it d i es.size n) where
  mem := by simp
  obj := fun i h st b hb => by
    have e : b = it := by simpa using hb
    subst e
    obtain ⟨oi, e, c, dd⟩ := st
    exact ⟨oi, e, fun v z => by rw [dd] at z; cases z⟩
  keep := fun i h h' st k => st.at fun oi e => k it (by simp) oi e
  item := by
    intro X hP hw hK hc i pins s σ H E I hf st hg
    subst hP hw hK
    obtain ⟨f0, f1, f2, f3, f4, f5⟩ := hf it (by simp)
    obtain ⟨hs, hz⟩ := KKeys.at (K := X.K) (d := d) (n := n) hk
    have hi : i < es.size := by
      have : i < zs.length := hg
      omega
    obtain ⟨z, t, e1, e2⟩ := hz i hi
    have raw : s.heap.DictRaw d es n := ⟨_, I.kIn d _ hl, ⟨rfl, rfl, rfl⟩, rfl⟩
    refine wpAny_pyNext_keys_item_raw st raw hi fun h' st' sb => ?_
    have I1 : Inv X pins σ H { s with heap := h' } := I.turned (t' := s.toks) (fun b ob hb e => (sb.2 b hb).trans e) f0 f1 f3 f4 f5
    obtain ⟨oi, e, c, dd⟩ := id st'
    exact ⟨_, rfl, go_of (s := { s with heap := h' }) e c dd (by decide) ⟨.str z, H, I1, ⟨t, e2⟩, ⟨rfl, z, e1, rfl⟩, st', fun b hb => (hf b hb).1⟩⟩
  done := by
    intro X hP hw hK hc i pins s σ H E I hf st hg
    subst hP hw hK
    obtain ⟨f0, f1, f2, f3, f4, f5⟩ := hf it (by simp)
    obtain ⟨hs, hz⟩ := KKeys.at (K := X.K) (d := d) (n := n) hk
    have raw : s.heap.DictRaw d es n := ⟨_, I.kIn d _ hl, ⟨rfl, rfl, rfl⟩, rfl⟩
    have hi : es.size ≤ i := by
      have : zs.length ≤ i := hg
      omega
    exact wpAny_pyNext_keys_end_raw (I.ok.hd hc) st raw hi fun h' eb => ⟨rfl, I.turned (t' := s.toks) (fun b o hb e => eb b o hb e) f0 f1 f3 f4 f5⟩
  self := fun _ _ _ _ _ st h => wpAny_pyIter_keyiter st h
def iKK (K : PySem.W.Frag) (td : TE) : TI := fun σ H R => td σ H fun x H1 => ∃ d zs, x = .ref d ∧ KKeys K d zs ∧ R (ItKK zs) H1
theorem pi_kk {X : Cx} {e : Expr} {td : TE} (he : PE X e td) : PI X tg e (iKK X.K td) := by
  refine ⟨fun pins s σ H R I h => ?_⟩
  refine thn (he.run pins s σ H _ I h) fun u s1 ⟨x, H1, I1, rx, d, zs, ex, ⟨⟨es, n, hl, hk⟩, low⟩, q⟩ => ?_
  subst ex
  obtain rfl : u = Value.ref d := rx
  have raw : s1.heap.DictRaw d es n := ⟨_, I1.kIn d _ hl, ⟨rfl, rfl, rfl⟩, rfl⟩
  exact wpAny_pyIter_dict_raw low raw (pi_one (tk := s1.toks) I1 _ (turn_kk hl hk) ⟨_, Heap.get?_push_size _ rfl, rfl, rfl⟩ q)
end
end Fp

/-! operators and methods that a class of the text defines -/
namespace Fp
open PySem PySem.Spec PyProof.Rows L2
/-- the def m of the class at C -/
def Mn (P : Program) (w : World) (K : PySem.W.Frag) (mg : Str → Option Value) (base : Heap) (k : Nat) (C : Addr) (m : Str) (ps : List Str) (sp : Sp) : Prop :=
  ∃ g fd, Meth K C m g ∧ Binds K fd ps [] ∧ FnOk P w K mg base CX0 k g fd ps sp
section
variable {X : Cx} {k : Nat} {C : Addr} {m : Str} {ps : List Str} {sp : Sp}
theorem pm {pl : Sem Bool} {o e : Expr} {es : List Expr} {pos apos : Pos} {ta : TE} {t : TA} (c : Cls X.K C) (M : Mn X.prog X.w X.K X.mg X.base k C m ps sp) (hr : Room k X.A) (he : PE X o ta) (ha : PA X (e :: es) t)
    (hst : starEach (e :: es) X.env = (false, eval e X.env) :: starEach es X.env := by rfl) (hpl : (backTo pos (starEach es X.env)).any (·.1) = false := by rfl)
    (ht : eval (.Call (.Attribute o m apos) (e :: es) [] pos) X.env = (do
      let ov ← eval o X.env
      standAt apos.atName
      let (f, first) ← holding [ov] (getMethod ov m pl)
      callWith pos f first (backTo pos (starEach (e :: es) X.env)) (backToKw pos (keywordEach [] X.env))) := by rfl) :
    PE X (.Call (.Attribute o m apos) (e :: es) [] pos) (tMeth C m sp [] E0 ta t) := by
  obtain ⟨g, fd, h1, h2, h3⟩ := M
  exact pe_meth he c h1 h3 hr h2 .nil pass0 ha hst hpl ht
theorem pm0 {pl : Sem Bool} {o : Expr} {pos apos : Pos} {ta : TE} (c : Cls X.K C) (M : Mn X.prog X.w X.K X.mg X.base k C m ps sp) (hr : Room k X.A) (he : PE X o ta)
    (ht : eval (.Call (.Attribute o m apos) [] [] pos) X.env = (do
      let ov ← eval o X.env
      standAt apos.atName
      let (f, first) ← holding [ov] (getMethod ov m pl)
      callWith pos f first (backTo pos (starEach [] X.env)) (backToKw pos (keywordEach [] X.env))) := by rfl) :
    PE X (.Call (.Attribute o m apos) [] [] pos) (tMeth C m sp [] E0 ta tNil) := by
  obtain ⟨g, fd, h1, h2, h3⟩ := M
  exact pe_meth0 he c h1 h3 hr h2 .nil pass0 ht
/-- the class x of the text, made by its __init__ -/
def Kn (P : Program) (w : World) (K : PySem.W.Frag) (mg : Str → Option Value) (base : Heap) (k : Nat) (C : Addr) (ps : List Str) (sp : Sp) : Prop :=
  ∃ g fd, Mk K C g ∧ Binds K fd ps [] ∧ FnOk P w K mg base CX0 k g fd ps sp
theorem pk {x : Str} {e : Expr} {es : List Expr} {p pos : Pos} {t : TA} (M : Kn X.prog X.w X.K X.mg X.base k C ps sp) (hr : Room (k + 1) X.A) (hg : Gl X x) (hm : X.mg x = some (.ref C)) (ha : PA X (e :: es) t)
    (hdb : (x == ("__debug__" : Str)) = false := by decide) (he : starEach (e :: es) X.env = (false, eval e X.env) :: starEach es X.env := by rfl) (hpl : (backTo pos (starEach es X.env)).any (·.1) = false := by rfl) :
    PE X (.Call (.Name x p) (e :: es) [] pos) (tMake C sp [] E0 t) := by
  obtain ⟨g, fd, h1, h2, h3⟩ := M
  exact pe_make h1 h3 hr hg hm h2 .nil pass0 ha hdb he hpl
/-- a property of the class at C -/
def Pn (P : Program) (w : World) (K : PySem.W.Frag) (mg : Str → Option Value) (base : Heap) (k : Nat) (C : Addr) (f : Str) (sp : Sp) : Prop :=
  ∃ p g fd ps, PropOf K C f p g ∧ Binds K fd ps [] ∧ FnOk P w K mg base CX0 k g fd ps sp
theorem pq {f : Str} {e : Expr} {pos : Pos} {ta : TE} (c : Cls X.K C) (M : Pn X.prog X.w X.K X.mg X.base k C f sp) (hr : Room (k + 1) X.A) (he : PE X e ta) (hab : attributeBase e f X.env (eval e X.env) = eval e X.env := by rfl) :
    PE X (.Attribute e f pos) (tProp C sp [] E0 ta) := by
  obtain ⟨p, g, fd, ps, h1, h2, h3⟩ := M
  exact pe_prop he c h1 h3 hr h2 .nil pass0 hab
theorem inst_of {pins : List (Addr × Obj)} {σ : L2.St} {H : Hp} {s : Shared} {a dx : Addr} {fs : List (Str × V)} (I : Inv X pins σ H s) (e : H a = some (.ins C dx fs)) : ∃ od, PySem.W.InstAt s.heap a (PySem.W.instObj C dx) C (some od) := by
  obtain ⟨mA, O, _⟩ := ins_get I.hok e
  obtain ⟨od, J, _⟩ := O.look
  exact ⟨od, J⟩
/-- v in x, x an instance of the class at C -/
def rOwnIn (C : Addr) (neg : Bool) (sp : Sp) : R2 := fun x y H Q => ∃ a dx fs, y = .ref a ∧ H a = some (.ins C dx fs) ∧ sp [.ref a, x] H (fun v H' => ∃ b, v = .bl b ∧ Q (.bl (if neg then !b else b)) H') E0
theorem op_ownIn (M : Mn X.prog X.w X.K X.mg X.base k C "__contains__" ps sp) (hr : Room k X.A) : OpR X (compareOp .In) (rOwnIn C false sp) := by
  intro pins s σ H x y v u Q I rx ry h
  obtain ⟨a, dx, fs, rfl, ha, q⟩ := h
  obtain rfl : u = Value.ref a := ry
  obtain ⟨g, fd, h1, h2, h3⟩ := M
  obtain ⟨od, J⟩ := inst_of I ha
  obtain ⟨m, hF⟩ := I.fr
  refine PySem.W.in_K hF I.ok.mod.kin J h1.at_ h1.fn ?_
  refine wpAny_mono (run_fn (us := [.ref a, v]) (vs := [.ref a, x]) (dvs := []) h3 hr h2 .nil pass0 I (.cons rfl (.cons rx .nil)) q) (fun w s' z => ?_) fun _ _ x => x
  obtain ⟨z', H', I', rz, b, rfl, qz⟩ := z
  cases rz
  exact wpAny_truthy_bool ⟨.bl b, H', I', rfl, qz⟩
theorem op_ownNotIn (M : Mn X.prog X.w X.K X.mg X.base k C "__contains__" ps sp) (hr : Room k X.A) : OpR X (compareOp .NotIn) (rOwnIn C true sp) := by
  intro pins s σ H x y v u Q I rx ry h
  obtain ⟨a, dx, fs, rfl, ha, q⟩ := h
  obtain rfl : u = Value.ref a := ry
  obtain ⟨g, fd, h1, h2, h3⟩ := M
  obtain ⟨od, J⟩ := inst_of I ha
  obtain ⟨m, hF⟩ := I.fr
  refine PySem.W.notIn_K hF I.ok.mod.kin J h1.at_ h1.fn ?_
  refine wpAny_mono (run_fn (us := [.ref a, v]) (vs := [.ref a, x]) (dvs := []) h3 hr h2 .nil pass0 I (.cons rfl (.cons rx .nil)) q) (fun w s' z => ?_) fun _ _ x => x
  obtain ⟨z', H', I', rz, b, rfl, qz⟩ := z
  cases rz
  exact wpAny_truthy_bool ⟨.bl (!b), H', I', rfl, qz⟩
/-- x op y, both instances of the class at C, a comparison -/
def rOwn2 (C : Addr) (sp : Sp) : R2 := fun x y H Q => ∃ a dx fs b dy gs, x = .ref a ∧ y = .ref b ∧ H a = some (.ins C dx fs) ∧ H b = some (.ins C dy gs) ∧ sp [.ref a, .ref b] H Q E0
theorem op_ownCmp {op : CmpOp} (hop : ∀ a b, compareOp op a b = richCompare op a b) (hn : PySem.W.notFirst X.K C (.ref C) = true) (M : Mn X.prog X.w X.K X.mg X.base k C (cmpInfo op).2.1 ps sp) (hr : Room k X.A) : OpR X (compareOp op) (rOwn2 C sp) := by
  intro pins s σ H x y v u Q I rx ry h
  obtain ⟨a, dx, fs, b, dy, gs, rfl, rfl, ha, hb, q⟩ := h
  obtain rfl : v = Value.ref a := rx
  obtain rfl : u = Value.ref b := ry
  obtain ⟨g, fd, h1, h2, h3⟩ := M
  obtain ⟨od, J⟩ := inst_of I ha
  obtain ⟨od', J'⟩ := inst_of I hb
  obtain ⟨m, hF⟩ := I.fr
  rw [hop]
  refine PySem.W.cmp_K (op := op) (tb := .ref C) hr.units0 hF I.ok.mod.kin J J'.type hn h1.at_ h1.fn ?_
  refine wpAny_mono (run_fn (us := [.ref a, .ref b]) (vs := [.ref a, .ref b]) (dvs := []) h3 hr h2 .nil pass0 I (.cons rfl (.cons rfl .nil)) q) (fun w s' z => ?_) fun _ _ x => x
  obtain ⟨z', H', I', rz, qz⟩ := z
  exact SlX.cmpback rz ⟨z', H', I', rz, qz⟩
theorem op_ownBin {op : Operator} (hc : PySem.W.selfFirst X.K C = true) (M : Mn X.prog X.w X.K X.mg X.base k C (PySem.dunder op.info.2) ps sp) (hr : Room k X.A) : OpR X (binaryOp op) (rOwn2 C sp) := by
  intro pins s σ H x y v u Q I rx ry h
  obtain ⟨a, dx, fs, b, dy, gs, rfl, rfl, ha, hb, q⟩ := h
  obtain rfl : v = Value.ref a := rx
  obtain rfl : u = Value.ref b := ry
  obtain ⟨g, fd, h1, h2, h3⟩ := M
  obtain ⟨od, J⟩ := inst_of I ha
  obtain ⟨od', J'⟩ := inst_of I hb
  obtain ⟨m, hF⟩ := I.fr
  refine PySem.W.binop_K (op := op) hF I.ok.mod.kin J J'.type hc h1.at_ h1.fn ?_
  refine wpAny_mono (run_fn (us := [.ref a, .ref b]) (vs := [.ref a, .ref b]) (dvs := []) h3 hr h2 .nil pass0 I (.cons rfl (.cons rfl .nil)) q) (fun w s' z => ?_) fun _ _ x => x
  obtain ⟨z', H', I', rz, qz⟩ := z
  exact SlX.cmpback rz ⟨z', H', I', rz, qz⟩
end
end Fp

/-! loops and comprehensions over a row of values -/
namespace Fp
open PySem PySem.Spec PyProof.Rows L2
/-- the iterator gives the values xs, one a turn, while S holds of the heap -/
structure JSeq (J : It) (xs : List V) (S : Hp → Prop) : Prop where
  go : ∀ i H, S H → i < xs.length → J.go i H
  yld : ∀ i H x H', S H → i < xs.length → J.yld i H x H' → H' = H ∧ xs[i]? = some x
  stop : ∀ i H, S H → xs.length ≤ i → J.stop i H
  same : ∀ H H', S H → Same H H' → S H'
theorem jseq_list (K : PySem.W.Frag) (a : Addr) (xs : List V) : JSeq (Itl K a) xs (fun H => SqL K H a xs) :=
  ⟨fun i H h hi => ⟨xs, xs[i], h, List.getElem?_eq_getElem hi⟩, fun i H x H' h _ y => ⟨y.1, y.2 xs h⟩, fun i H h hi => ⟨xs, h, hi⟩, fun H H' h e => e.seq h⟩
theorem same_tup {K : PySem.W.Frag} {H H' : Hp} {a : Addr} {xs : List V} (e : Same H H') (h : SqT K H a xs) : SqT K H' a xs := by
  rcases h with (h | ⟨o, h⟩) | h
  · exact .inl (.inl (e _ _ h))
  · exact .inl (.inr ⟨o, e _ _ h⟩)
  · exact .inr h
theorem jseq_tup (K : PySem.W.Frag) (a : Addr) (xs : List V) : JSeq (Itt K a) xs (fun H => SqT K H a xs) :=
  ⟨fun i H h hi => ⟨xs, xs[i], h, List.getElem?_eq_getElem hi⟩, fun i H x H' h _ y => ⟨y.1, y.2 xs h⟩, fun i H h hi => ⟨xs, h, hi⟩, fun H H' h e => same_tup e h⟩
theorem jseq_kk (zs : List Str) : JSeq (ItKK zs) (zs.map V.str) (fun _ => True) :=
  ⟨fun i H h hi => by rw [List.length_map] at hi; exact hi, fun i H x H' h _ y => by
    obtain ⟨e, z, h1, rfl⟩ := y
    exact ⟨e, by rw [List.getElem?_map, h1]; rfl⟩, fun i H h hi => by rw [List.length_map] at hi; exact hi, fun _ _ h _ => h⟩
def rngV (lo : Int) (n : Nat) : List V := (List.range n).map fun (i : Nat) => V.int (lo + i)
theorem rngV_len (lo : Int) (n : Nat) : (rngV lo n).length = n := by
  unfold rngV
  rw [List.length_map, List.length_range]
theorem rngV_at {lo : Int} {n i : Nat} (h : i < n) : (rngV lo n)[i]? = some (.int (lo + i)) := by
  unfold rngV
  rw [List.getElem?_map, List.getElem?_range h]
  rfl
theorem jseq_rng (lo : Int) (n : Nat) : JSeq (Itr lo n) (rngV lo n) (fun _ => True) :=
  ⟨fun i H _ hi => by rw [rngV_len] at hi; exact hi, fun i H x H' _ hi y => by
    obtain ⟨h1, h2⟩ := y
    rw [rngV_len] at hi
    exact ⟨h1, by rw [rngV_at hi, h2]⟩, fun i H _ hi => by rw [rngV_len] at hi; exact hi, fun _ _ h _ => h⟩

/-! ### the walk, once the iterator is there -/
def LcG (J : It) (g : TG) (tt : TT) (te : TE) (vs : List Nat) (σ : L2.St) (H : Hp) (Q : VK) : Prop := tLc (fun _ H R => R J H) g tt te vs σ H Q
def ForG (J : It) (g : TG) (tb : TS) (D : Ends) (σ : L2.St) (H : Hp) : Prop := tFor (fun _ H R => R J H) g tb D σ H
section
variable {K : PySem.W.Frag} {tl : TE} {ta : TA} {g : TG} {tt : TT} {te : TE} {tb : TS} {D : Ends} {vs : List Nat} {σ : L2.St} {H : Hp} {Q : VK}
theorem lc_iL : tLc (iList K tl) g tt te vs σ H Q = tl σ H (fun x H1 => ∃ a, x = .ref a ∧ (∃ xs, SqL K H1 a xs) ∧ LcG (Itl K a) g tt te vs σ H1 Q) := rfl
theorem lc_iT : tLc (iTup K tl) g tt te vs σ H Q = tl σ H (fun x H1 => ∃ a, x = .ref a ∧ (∃ xs, SqT K H1 a xs) ∧ LcG (Itt K a) g tt te vs σ H1 Q) := rfl
theorem lc_iK : tLc (iKK K tl) g tt te vs σ H Q = tl σ H (fun x H1 => ∃ d zs, x = .ref d ∧ KKeys K d zs ∧ LcG (ItKK zs) g tt te vs σ H1 Q) := rfl
theorem lc_iR : tLc (iRng1 ta) g tt te vs σ H Q = ta σ H (fun zs H1 => ∃ j : Int, zs = [.int j] ∧ -(2 ^ 62) ≤ j ∧ j < 2 ^ 62 ∧ LcG (Itr 0 j.toNat) g tt te vs σ H1 Q) := rfl
theorem fr_iL : tFor (iList K tl) g tb D σ H = tl σ H (fun x H1 => ∃ a, x = .ref a ∧ (∃ xs, SqL K H1 a xs) ∧ ForG (Itl K a) g tb D σ H1) := rfl
theorem fr_iT : tFor (iTup K tl) g tb D σ H = tl σ H (fun x H1 => ∃ a, x = .ref a ∧ (∃ xs, SqT K H1 a xs) ∧ ForG (Itt K a) g tb D σ H1) := rfl
theorem fr_iR : tFor (iRng1 ta) g tb D σ H = ta σ H (fun zs H1 => ∃ j : Int, zs = [.int j] ∧ -(2 ^ 62) ≤ j ∧ j < 2 ^ 62 ∧ ForG (Itr 0 j.toNat) g tb D σ H1) := rfl
variable {J : It} {xs : List V} {S : Hp → Prop}
/-- a comprehension by a word P of: the turn, the list so far (it stands at D), the heap -/
theorem lcg_by (hJ : JSeq J xs S) (P : Addr → Nat → List V → Hp → Prop) (h0 : ∀ D, H D = none → P D 0 [] (upd H D (.lst [])))
    (hP : ∀ D i acc H', H D = none → i ≤ xs.length → P D i acc H' → S H')
    (hs : ∀ D i x acc H', H D = none → xs[i]? = some x → P D i acc H' → g x (wipe σ vs) H' fun σ2 H2 => wipe σ2 vs = wipe σ vs ∧ tt σ2 H2 fun b H3 =>
      if b = true then te σ2 H3 fun y H4 => ∃ acc, H4 D = some (.lst acc) ∧ acc.length < sizeLine ∧ (∃ acc', P D (i + 1) acc' (upd H4 D (.lst (acc ++ [y])))) else ∃ acc', P D (i + 1) acc' H3)
    (hd : ∀ D acc H', H D = none → P D xs.length acc H' → Q (.ref D) H') : LcG J g tt te vs σ H Q := by
  intro D hD
  refine ⟨fun i m H' => m = xs.length - i ∧ i ≤ xs.length ∧ ∃ acc, P D i acc H', ⟨xs.length, by simp, Nat.zero_le _, [], h0 D hD⟩, ?_⟩
  rintro i m H' ⟨rfl, hi, acc, p⟩
  have hS := hP D i acc H' hD hi p
  by_cases hlt : i < xs.length
  · refine .inr ⟨hJ.go i H' hS hlt, fun H'' => ∃ acc, P D (i + 1) acc H'', fun H'' ⟨acc', p'⟩ => ⟨xs.length - (i + 1), by omega, rfl, hlt, acc', p'⟩, fun x H'' y => ?_⟩
    obtain ⟨rfl, hx⟩ := hJ.yld i H' x H'' hS hlt y
    exact hs D i x acc _ hD hx p
  · have e : i = xs.length := by omega
    subst e
    exact .inl ⟨hJ.stop _ H' hS (Nat.le_refl _), hd D acc H' hD p⟩
theorem filter_map_take {fb : V → Bool} {fv : V → V} {i : Nat} {x : V} (hx : xs[i]? = some x) :
    ((xs.take (i + 1)).filter fb).map fv = ((xs.take i).filter fb).map fv ++ (if fb x = true then [fv x] else []) := by
  rw [List.take_add_one, hx, List.filter_append, List.map_append]
  cases h : fb x with
  | true => simp [h]
  | false => simp [h]
/-- a comprehension whose tests and items change nothing that stands -/
theorem lcg_pure (hJ : JSeq J xs S) (hS : S H) (hz : xs.length < 100000) (fb : V → Bool) (fv : V → V)
    (hs : ∀ x, x ∈ xs → ∀ H', Same H H' → ∀ (R1 : V → Hp → Prop) (R0 : Hp → Prop), (fb x = true → ∀ H'', Same H' H'' → R1 (fv x) H'') → (fb x = false → ∀ H'', Same H' H'' → R0 H'') →
      g x (wipe σ vs) H' fun σ2 H2 => wipe σ2 vs = wipe σ vs ∧ tt σ2 H2 fun b H3 => if b = true then te σ2 H3 R1 else R0 H3)
    (hd : ∀ D H', H D = none → Same H H' → H' D = some (.lst ((xs.filter fb).map fv)) → Q (.ref D) H') : LcG J g tt te vs σ H Q := by
  refine lcg_by hJ (fun D i acc H' => Same H H' ∧ H' D = some (.lst acc) ∧ acc = ((xs.take i).filter fb).map fv) (fun D hD => ⟨same_new hD, upd_same, rfl⟩)
    (fun D i acc H' _ _ p => hJ.same _ _ hS p.1) (fun D i x acc H' hD hx p => ?_) (fun D acc H' hD p => ?_)
  · obtain ⟨p1, p2, rfl⟩ := p
    have hi : i < xs.length := (List.getElem?_eq_some_iff.mp hx).1
    refine hs x (List.mem_of_getElem? hx) H' p1 _ _ (fun hb H'' e => ?_) (fun hb H'' e => ?_)
    · refine ⟨((xs.take i).filter fb).map fv, e _ _ p2, ?_, _, Same.mut (p1.trans e) hD, upd_same, ?_⟩
      · refine Nat.lt_of_lt_of_le (Nat.lt_of_le_of_lt (?_ : _ ≤ xs.length) hz) (by decide)
        rw [List.length_map]
        exact Nat.le_trans (List.length_filter_le _ _) (by rw [List.length_take]; exact Nat.min_le_right _ _)
      · rw [filter_map_take hx, if_pos hb]
    · refine ⟨_, p1.trans e, e _ _ p2, ?_⟩
      rw [filter_map_take hx, if_neg (by rw [hb]; decide), List.append_nil]
  · obtain ⟨p1, p2, rfl⟩ := p
    rw [List.take_length] at p2
    exact hd D H' hD p1 p2
/-- a for by a word P of: the turn, the slots, the heap -/
theorem forg_by (hJ : JSeq J xs S) (P : Nat → L2.St → Hp → Prop) (h0 : P 0 σ H) (hP : ∀ i σ' H', i ≤ xs.length → P i σ' H' → S H')
    (hs : ∀ i x σ' H', xs[i]? = some x → P i σ' H' → g x σ' H' fun σ2 H2 => tb { D with nx := P (i + 1), ct := P (i + 1), bk := D.nx } σ2 H2) (hd : ∀ σ' H', P xs.length σ' H' → D.nx σ' H') : ForG J g tb D σ H := by
  refine ⟨fun i m σ' H' => m = xs.length - i ∧ i ≤ xs.length ∧ P i σ' H', ⟨xs.length, by simp, Nat.zero_le _, h0⟩, ?_⟩
  rintro i m σ' H' ⟨rfl, hi, p⟩
  have hS := hP i σ' H' hi p
  by_cases hlt : i < xs.length
  · refine .inr ⟨hJ.go i H' hS hlt, P (i + 1), fun σ'' H'' p' => ⟨xs.length - (i + 1), by omega, rfl, hlt, p'⟩, fun x H'' y => ?_⟩
    obtain ⟨rfl, hx⟩ := hJ.yld i H' x H'' hS hlt y
    exact hs i x σ' _ hx p
  · have e : i = xs.length := by omega
    subst e
    exact .inl ⟨hJ.stop _ H' hS (Nat.le_refl _), hd σ' H' p⟩
end
end Fp

/-! data that stands in the heap: lists and tuples of ints, texts, bools, None, nested -/
namespace Fp
open PySem PySem.Spec PyProof.Rows L2
mutual
inductive Dt (H : Hp) : V → PyData → Prop
  | non : Dt H .non .none
  | bl (b : Bool) : Dt H (.bl b) (.bool b)
  | int (i : Int) : Dt H (.int i) (.int i)
  | str (x : Str) : Dt H (.str x) (.str x)
  | lst {a : Addr} {xs : List V} {ds : List PyData} : H a = some (.lst xs) → Dts H xs ds → Dt H (.ref a) (.list ds)
  | tup {a : Addr} {xs : List V} {ds : List PyData} : H a = some (.tup xs) → Dts H xs ds → Dt H (.ref a) (.tuple ds)
inductive Dts (H : Hp) : List V → List PyData → Prop
  | nil : Dts H [] []
  | cons {v : V} {vs : List V} {d : PyData} {ds : List PyData} : Dt H v d → Dts H vs ds → Dts H (v :: vs) (d :: ds)
end
mutual
theorem Dt.same {H H' : Hp} (e : Same H H') : ∀ {d : PyData} {v : V}, Dt H v d → Dt H' v d
  | .none, _, .non => .non
  | .bool _, _, .bl b => .bl b
  | .int _, _, .int i => .int i
  | .str _, _, .str x => .str x
  | .list ds, _, .lst h t => .lst (e _ _ h) (Dts.same e t)
  | .tuple ds, _, .tup h t => .tup (e _ _ h) (Dts.same e t)
theorem Dts.same {H H' : Hp} (e : Same H H') : ∀ {ds : List PyData} {vs : List V}, Dts H vs ds → Dts H' vs ds
  | [], _, .nil => .nil
  | _ :: _, _, .cons h t => .cons (Dt.same e h) (Dts.same e t)
end
mutual
/-- a dict that changes is no part of data -/
theorem Dt.but {H H' : Hp} {p : Addr} {kvs : List (Key × V)} (hp : H p = some (.dK kvs)) (e : But p H H') : ∀ {d : PyData} {v : V}, Dt H v d → Dt H' v d
  | .none, _, .non => .non
  | .bool _, _, .bl b => .bl b
  | .int _, _, .int i => .int i
  | .str _, _, .str x => .str x
  | .list ds, _, .lst h t => .lst (e.1 _ _ h (ne_of h hp (by intro z; cases z))) (Dts.but hp e t)
  | .tuple ds, _, .tup h t => .tup (e.1 _ _ h (ne_of h hp (by intro z; cases z))) (Dts.but hp e t)
theorem Dts.but {H H' : Hp} {p : Addr} {kvs : List (Key × V)} (hp : H p = some (.dK kvs)) (e : But p H H') : ∀ {ds : List PyData} {vs : List V}, Dts H vs ds → Dts H' vs ds
  | [], _, .nil => .nil
  | _ :: _, _, .cons h t => .cons (Dt.but hp e h) (Dts.but hp e t)
end
mutual
theorem Dt.dp {K : PySem.W.Frag} {H : Hp} : ∀ {d : PyData} {v : V}, Dt H v d → Dp K H v d
  | .none, _, .non => .non
  | .bool _, _, .bl b => .bl b
  | .int _, _, .int i => .int i
  | .str _, _, .str x => .str x
  | .list ds, _, .lst h t => .lst (.inl (.inl h)) (Dts.dp t)
  | .tuple ds, _, .tup h t => .tup (.inl (.inl h)) (Dts.dp t)
theorem Dts.dp {K : PySem.W.Frag} {H : Hp} : ∀ {ds : List PyData} {vs : List V}, Dts H vs ds → DpAll K H vs ds
  | [], _, .nil => .nil
  | _ :: _, _, .cons h t => .cons (Dt.dp h) (Dts.dp t)
end
theorem Dts.len {H : Hp} : ∀ {ds : List PyData} {vs : List V}, Dts H vs ds → vs.length = ds.length
  | _, _, .nil => rfl
  | _, _, .cons _ t => by rw [List.length_cons, List.length_cons, Dts.len t]
theorem Dts.app {H : Hp} : ∀ {ds es : List PyData} {vs ws : List V}, Dts H vs ds → Dts H ws es → Dts H (vs ++ ws) (ds ++ es)
  | _, _, _, _, .nil, s => s
  | _, _, _, _, .cons h t, s => .cons h (Dts.app t s)
theorem Dts.get {H : Hp} : ∀ {ds : List PyData} {vs : List V} {i : Nat} {d : PyData}, Dts H vs ds → ds[i]? = some d → ∃ v, vs[i]? = some v ∧ Dt H v d
  | _, _, i, d, .nil, h => by simp at h
  | _, _, 0, d, .cons h t, e => by cases e; exact ⟨_, rfl, h⟩
  | _, _, i + 1, d, .cons h t, e => Dts.get (i := i) t e
theorem Dts.erase {H : Hp} : ∀ {ds : List PyData} {vs : List V} (i : Nat), Dts H vs ds → Dts H (vs.eraseIdx i) (ds.eraseIdx i)
  | _, _, _, .nil => .nil
  | _, _, 0, .cons _ t => t
  | _, _, i + 1, .cons h t => .cons h (Dts.erase i t)
theorem Dts.strs {H : Hp} : ∀ {zs : List Str} {vs : List V}, Dts H vs (zs.map PyData.str) → vs = zs.map V.str
  | [], _, .nil => rfl
  | z :: r, _, .cons (.str _) t => by rw [Dts.strs t]; rfl
theorem Dts.ints {H : Hp} : ∀ {zs : List Int} {vs : List V}, Dts H vs (zs.map PyData.int) → vs = zs.map V.int
  | [], _, .nil => rfl
  | z :: r, _, .cons (.int _) t => by rw [Dts.ints t]; rfl
theorem dts_strs {H : Hp} : ∀ zs : List Str, Dts H (zs.map V.str) (zs.map PyData.str)
  | [] => .nil
  | z :: r => .cons (.str z) (dts_strs r)
theorem dts_ints {H : Hp} : ∀ zs : List Int, Dts H (zs.map V.int) (zs.map PyData.int)
  | [] => .nil
  | z :: r => .cons (.int z) (dts_ints r)

theorem Dt.pair {H : Hp} {v : V} {d e : PyData} (h : Dt H v (.tuple [d, e])) : ∃ a x y, v = .ref a ∧ H a = some (.tup [x, y]) ∧ Dt H x d ∧ Dt H y e := by
  cases h with
  | tup h1 t1 =>
    cases t1 with
    | cons h2 t2 =>
      cases t2 with
      | cons h3 t3 =>
        cases t3
        exact ⟨_, _, _, rfl, h1, h2, h3⟩
theorem Dt.txt {H : Hp} {v : V} {z : Str} (h : Dt H v (.str z)) : v = .str z := by
  cases h
  rfl
theorem Dt.num {H : Hp} {v : V} {z : Int} (h : Dt H v (.int z)) : v = .int z := by
  cases h
  rfl
theorem Dt.list {H : Hp} {v : V} {ds : List PyData} (h : Dt H v (.list ds)) : ∃ a xs, v = .ref a ∧ H a = some (.lst xs) ∧ Dts H xs ds := by
  cases h with
  | lst h1 t1 => exact ⟨_, _, rfl, h1, t1⟩
theorem Dt.tuple {H : Hp} {v : V} {ds : List PyData} (h : Dt H v (.tuple ds)) : ∃ a xs, v = .ref a ∧ H a = some (.tup xs) ∧ Dts H xs ds := by
  cases h with
  | tup h1 t1 => exact ⟨_, _, rfl, h1, t1⟩

/-! ### what evaluates to data, leaving all that stands -/
def EvD (te : TE) (σ : L2.St) (H : Hp) (d : PyData) : Prop := ∀ H1, Same H H1 → ∀ Q : VK, (∀ v H2, Same H1 H2 → Dt H2 v d → Q v H2) → te σ H1 Q
def EvDs (ta : TA) (σ : L2.St) (H : Hp) (ds : List PyData) : Prop := ∀ H1, Same H H1 → ∀ Q : List V → Hp → Prop, (∀ vs H2, Same H1 H2 → Dts H2 vs ds → Q vs H2) → ta σ H1 Q
section
variable {K : PySem.W.Frag} {σ : L2.St} {H H' : Hp} {ta tb te : TE} {tr : TA} {d e : PyData} {ds es : List PyData}
theorem d_str {z : Str} : EvD (tC (.str z)) σ H (.str z) := fun H1 _ Q q => q _ H1 (Same.refl _) (.str z)
theorem d_int {z : Int} : EvD (tC (.int z)) σ H (.int z) := fun H1 _ Q q => q _ H1 (Same.refl _) (.int z)
theorem d_non : EvD (tC .non) σ H .none := fun H1 _ Q q => q _ H1 (Same.refl _) .non
theorem d_var {i : Nat} {v : V} (h : σ[i]? = some (some v)) (hd : Dt H v d) : EvD (tVar i) σ H d := fun H1 e Q q => ⟨v, h, q _ H1 (Same.refl _) (hd.same e)⟩
theorem d_nil : EvDs tNil σ H [] := fun H1 _ Q q => q _ H1 (Same.refl _) .nil
theorem d_cons (h : EvD ta σ H d) (t : EvDs tr σ H ds) : EvDs (tCons ta tr) σ H (d :: ds) := fun H1 e1 Q q =>
  h H1 e1 _ fun v H2 e2 hv => t H2 (e1.trans e2) _ fun vs H3 e3 hvs => q _ H3 (e2.trans e3) (.cons (hv.same e3) hvs)
theorem d_tup (t : EvDs tr σ H ds) (hl : ds.length ≤ 1000) : EvD (tTup tr) σ H (.tuple ds) := fun H1 e1 Q q =>
  t H1 e1 _ fun vs H2 e2 hvs => ⟨Nat.le_of_lt (small1000 (by rw [hvs.len]; exact hl)), fun p hp => q _ _ (Same.new e2 hp) (.tup upd_same (hvs.same (same_new hp)))⟩
theorem d_lst (t : EvDs tr σ H ds) (hl : ds.length ≤ 1000) : EvD (tLst tr) σ H (.list ds) := fun H1 e1 Q q =>
  t H1 e1 _ fun vs H2 e2 hvs => ⟨Nat.le_of_lt (small1000 (by rw [hvs.len]; exact hl)), fun p hp => q _ _ (Same.new e2 hp) (.lst upd_same (hvs.same (same_new hp)))⟩
theorem d_cat (ha : EvD ta σ H (.list ds)) (hb : EvD tb σ H (.list es)) (hl : ds.length + es.length ≤ 1000) : EvD (tOp rCat ta tb) σ H (.list (ds ++ es)) := fun H1 e1 Q q =>
  ha H1 e1 _ fun v H2 e2 hv => hb H2 (e1.trans e2) _ fun w H3 e3 hw => by
    cases hv with
    | lst h1 t1 =>
      cases hw with
      | lst h2 t2 =>
        exact ⟨_, _, _, _, rfl, rfl, e3 _ _ h1, h2, Nat.le_of_lt (small1000 (by rw [t1.len, t2.len]; exact hl)), fun p hp => q _ _ (Same.new (e2.trans e3) hp) (.lst upd_same (((t1.same e3).app t2).same (same_new hp)))⟩
theorem EvD.mono (h : EvD te σ H d) (e : Same H H') : EvD te σ H' d := fun H1 e1 Q q => h H1 (e.trans e1) Q q
theorem EvD.go {Q : VK} (h : EvD te σ H d) (q : ∀ v H2, Same H H2 → Dt H2 v d → Q v H2) : te σ H Q := h H (Same.refl _) Q q
/-- a call of a def that gives data -/
theorem d_call {sp : Sp} (h : EvDs tr σ H ds) (hs : ∀ vs H1, Same H H1 → Dts H1 vs ds → ∀ Q : VK, (∀ v H2, Same H1 H2 → Dt H2 v d → Q v H2) → sp vs H1 Q E0) : EvD (tCall sp [] E0 tr) σ H d := fun H1 e1 Q q =>
  h H1 e1 _ fun vs H2 e2 hvs => by
    rw [List.append_nil]
    exact hs vs H2 (e1.trans e2) hvs Q fun v H3 e3 hv => q v H3 (e2.trans e3) hv
end
section
variable {σ : L2.St} {H : Hp} {D : Ends} {te : TE} {d : PyData} {u : TS} {i : Nat}
theorem s_asgD (h : EvD te σ H d) (k : ∀ v H1, Same H H1 → Dt H1 v d → D.nx (σ.set i (some v)) H1) : tAsg te (gName i) D σ H := h.go fun v H1 e hv => k v H1 e hv
theorem q_asgD (h : EvD te σ H d) (k : ∀ v H1, Same H H1 → Dt H1 v d → u D (σ.set i (some v)) H1) : tSeq (tAsg te (gName i)) u D σ H := h.go fun v H1 e hv => k v H1 e hv
theorem s_retD (h : EvD te σ H d) (k : ∀ v H1, Same H H1 → Dt H1 v d → D.rt v H1) : tRet te D σ H := h.go fun v H1 e hv => k v H1 e hv
end
theorem eq_nilD {K : PySem.W.Frag} {H : Hp} {v : V} {q : Addr} {ds : List PyData} {Q : VK} (h : Dt H v (.list ds)) (hs : SeqAt.shaped (.list ds) = true) (hq : H q = some (.lst [])) (k : Q (.bl ds.isEmpty) H) : rEqD K v (.ref q) H Q := by
  obtain ⟨a, xs, rfl, ha, ht⟩ := h.list
  refine eq_nil (.inl (.inl ha)) ht.dp hs hq ?_
  have hl := ht.len
  cases ds with
  | nil => rw [List.length_eq_zero_iff.mp hl]; exact k
  | cons d r =>
    cases xs with
    | nil => cases hl
    | cons x y => exact k
theorem ne_nilD {K : PySem.W.Frag} {H : Hp} {v : V} {q : Addr} {ds : List PyData} {Q : VK} (h : Dt H v (.list ds)) (hs : SeqAt.shaped (.list ds) = true) (hq : H q = some (.lst [])) (k : Q (.bl (!ds.isEmpty)) H) : rNeD K v (.ref q) H Q := by
  obtain ⟨a, xs, rfl, ha, ht⟩ := h.list
  refine ne_nil (.inl (.inl ha)) ht.dp hs hq ?_
  have hl := ht.len
  cases ds with
  | nil => rw [List.length_eq_zero_iff.mp hl]; exact k
  | cons d r =>
    cases xs with
    | nil => cases hl
    | cons x y => exact k
/-! ### texts in lists -/
theorem flat_strs (zs : List Str) : (zs.map V.str).all flatV = true := by
  rw [List.all_map]
  exact List.all_eq_true.mpr fun z _ => rfl
theorem inV_strs (z : Str) (zs : List Str) : inV (.str z) (zs.map V.str) = decide (z ∈ zs) := by
  unfold inV
  rw [List.any_map]
  induction zs with
  | nil => rfl
  | cons y r ih =>
    rw [List.any_cons, ih]
    by_cases h : z = y
    · subst h
      simp [eqV]
    · simp [eqV, h]
      intro e
      exact absurd e.symm h
/-! ### comprehensions over data, whose items stood before -/
section
variable {K : PySem.W.Frag} {g : TG} {tt : TT} {te : TE} {vs : List Nat} {σ : L2.St} {H : Hp} {Q : VK} {J : It} {xs : List V} {S : Hp → Prop} {α : Type}
theorem lcg_old (hJ : JSeq J xs S) (hS : S H) (as : List α) (dat : α → PyData) (hxs : Dts H xs (as.map dat)) (hz : as.length < 100000) (fb : α → Bool) (fv : α → PyData)
    (hs : ∀ x a, a ∈ as → Dt H x (dat a) → ∀ H', Same H H' → ∀ (R1 : V → Hp → Prop) (R0 : Hp → Prop), (fb a = true → ∀ v H'', Same H' H'' → Dt H v (fv a) → R1 v H'') → (fb a = false → ∀ H'', Same H' H'' → R0 H'') →
      g x (wipe σ vs) H' fun σ2 H2 => wipe σ2 vs = wipe σ vs ∧ tt σ2 H2 fun b H3 => if b = true then te σ2 H3 R1 else R0 H3)
    (hd : ∀ D H', H D = none → Same H H' → Dt H' (.ref D) (.list ((as.filter fb).map fv)) → Q (.ref D) H') : LcG J g tt te vs σ H Q := by
  have hlen : xs.length = as.length := by rw [hxs.len, List.length_map]
  refine lcg_by hJ (fun D i acc H' => Same H H' ∧ H' D = some (.lst acc) ∧ Dts H acc (((as.take i).filter fb).map fv)) (fun D hD => ⟨same_new hD, upd_same, .nil⟩)
    (fun D i acc H' _ _ p => hJ.same _ _ hS p.1) (fun D i x acc H' hD hx p => ?_) (fun D acc H' hD p => ?_)
  · obtain ⟨p1, p2, p3⟩ := p
    have hi : i < as.length := hlen ▸ (List.getElem?_eq_some_iff.mp hx).1
    have ha : as[i]? = some as[i] := List.getElem?_eq_getElem hi
    obtain ⟨x', hx', hdx⟩ := hxs.get (i := i) (d := dat as[i]) (by rw [List.getElem?_map, ha]; rfl)
    rw [hx] at hx'
    cases hx'
    have tk : (((as.take (i + 1)).filter fb).map fv) = ((as.take i).filter fb).map fv ++ (if fb as[i] = true then [fv as[i]] else []) := by
      rw [List.take_add_one, ha, List.filter_append, List.map_append]
      cases h : fb as[i] with
      | true => simp [h]
      | false => simp [h]
    refine hs x as[i] (List.getElem_mem hi) hdx H' p1 _ _ (fun hb v H'' e hv => ?_) (fun hb H'' e => ?_)
    · refine ⟨acc, e _ _ p2, ?_, acc ++ [v], Same.mut (p1.trans e) hD, upd_same, ?_⟩
      · refine Nat.lt_of_lt_of_le (Nat.lt_of_le_of_lt (?_ : _ ≤ as.length) hz) (by decide)
        rw [p3.len, List.length_map]
        exact Nat.le_trans (List.length_filter_le _ _) (by rw [List.length_take]; exact Nat.min_le_right _ _)
      · rw [tk, if_pos hb]
        exact p3.app (.cons hv .nil)
    · refine ⟨acc, p1.trans e, e _ _ p2, ?_⟩
      rw [tk, if_neg (by rw [hb]; decide), List.append_nil]
      exact p3
  · obtain ⟨p1, p2, p3⟩ := p
    rw [hlen, List.take_length] at p3
    exact hd D H' hD p1 (.lst p2 (p3.same p1))
end
/-- a promise: from data to data -/
def spD (F : List PyData → Option PyData) : Sp := fun vs H Q _ => ∃ ds d, Dts H vs ds ∧ F ds = some d ∧ ∀ v H', Same H H' → Dt H' v d → Q v H'
theorem d_callF {σ : L2.St} {H : Hp} {tr : TA} {ds : List PyData} {d : PyData} {F : List PyData → Option PyData} (h : EvDs tr σ H ds) (hF : F ds = some d) : EvD (tCall (spD F) [] E0 tr) σ H d :=
  d_call h fun vs H1 e1 hvs Q q => ⟨ds, d, hvs, hF, q⟩
end Fp

/-! the rules with the written part told by name -/
namespace Fp
open PySem PySem.Spec PyProof.Rows L2
section
variable {X : Cx} (K : PySem.W.Frag)
theorem op_inK (hK : X.K = K := by rfl) : OpR X (compareOp .In) (rIn K false) := hK ▸ op_in_seq
theorem op_notInK (hK : X.K = K := by rfl) : OpR X (compareOp .NotIn) (rIn K true) := hK ▸ op_notIn_seq
theorem op_eqDK (hu : X.A.units + 64 < cLine) (hK : X.K = K := by rfl) : OpR X (compareOp .Eq) (rEqD K) := hK ▸ op_eqD hu
theorem op_neDK (hu : X.A.units + 64 < cLine) (hK : X.K = K := by rfl) : OpR X (compareOp .NotEq) (rNeD K) := hK ▸ op_neD hu
theorem call_lenK (hK : X.K = K := by rfl) : CallR X (.builtin "len") (rLenL K) := hK ▸ call_lenL
theorem call_listK (hK : X.K = K := by rfl) : CallR X (.type "list") (rListL K) := hK ▸ call_listL
theorem call_listTK (hK : X.K = K := by rfl) : CallR X (.type "list") (rListT K) := hK ▸ call_listT
def rTupL (K : PySem.W.Frag) : List V → Hp → VK → Prop := fun xs H Q => ∃ p ys, xs = [.ref p] ∧ SqL K H p ys ∧ ∀ l, H l = none → Q (.ref l) (upd H l (.tup ys))
theorem call_tupleK (hK : X.K = K := by rfl) : CallR X (.type "tuple") (rTupL K) := by
  subst hK
  intro pins s σ H xs us Q I r h
  obtain ⟨p, ys, e, h1, q⟩ := h
  exact call_tuple_of pins s σ H xs us Q I r ⟨p, ys, e, .inl ⟨h1, q⟩⟩
theorem call_allK (hc : X.calm = true) (hK : X.K = K := by rfl) : CallR X (.builtin "all") (rAll K) := hK ▸ cr_all hc
theorem ix_listK (hK : X.K = K := by rfl) : IxR X (rIxL K) := hK ▸ ix_list
theorem ix_tupK (hK : X.K = K := by rfl) : IxR X (rIxT K) := hK ▸ ix_tup
theorem ix_kdK (w : World) (hK : X.K = K := by rfl) (hw : X.w = w := by rfl) : IxR X (rIxD K w) := by
  subst hK hw
  exact ix_kdict
theorem sl_listK (hK : X.K = K := by rfl) : SlR X (rSlL K) := hK ▸ sl_list
variable {tg e o : Expr} {td : TE} {t : TA}
theorem pi_listK (he : PE X e td) (hK : X.K = K := by rfl) : PI X tg e (iList K td) := hK ▸ pi_list he
theorem pi_tupK (he : PE X e td) (hK : X.K = K := by rfl) : PI X tg e (iTup K td) := hK ▸ pi_tup he
theorem pi_kkK (he : PE X e td) (hK : X.K = K := by rfl) : PI X tg e (iKK K td) := hK ▸ pi_kk he
theorem pe_fldK {f : Str} {pos : Pos} (ho : PE X o td) (hb : attributeBase o f X.env (eval o X.env) = eval o X.env) (hK : X.K = K := by rfl) : PE X (.Attribute o f pos) (tFld K td f) := hK ▸ pe_fld ho hb
theorem ps_fldK {f : Str} {pos pos' : Pos} {v : Expr} {tv : TE} (ho : PE X o td) (hv : PE X v tv) (hs : swapsWith v (some (.Attribute o f pos')) pos.line X.env = pure false) (hK : X.K = K := by rfl) : PS X (.Assign [.Attribute o f pos'] v pos) (sFld K td tv f) := hK ▸ ps_fld ho hv hs
theorem pg_tupK {es : List Expr} {k n : Nat} {pos : Pos} {u : List V → L2.St → Hp → (L2.St → Hp → Prop) → Prop} (h : PG X (.Tuple es k pos) (gTup X.K n u)) (hK : X.K = K := by rfl) : PG X (.Tuple es k pos) (gTup K n u) := hK ▸ h
section
variable {T : String} {name : Str} {id : String} {to : TE} {r : V → List V → Hp → VK → Prop} {apos cpos : Pos} {es : List Expr}
theorem pe_bmK (hK : X.K = K := by rfl) (h : PE X (.Call (.Attribute o name apos) es [] cpos) (tBM X.K T r to t)) : PE X (.Call (.Attribute o name apos) es [] cpos) (tBM K T r to t) := hK ▸ h
theorem pe_bm0K (hK : X.K = K := by rfl) (h : PE X (.Call (.Attribute o name apos) es [] cpos) (tBM0 X.K T r to)) : PE X (.Call (.Attribute o name apos) es [] cpos) (tBM0 K T r to) := hK ▸ h
end
end
end Fp

/-! x != y where the class has an own __eq__ and no own __ne__ -/
namespace Fp
open PySem PySem.Spec PyProof.Rows L2
section
variable {X : Cx} {k : Nat} {C : Addr} {ps : List Str} {sp : Sp}
def rOwnNe (C : Addr) (sp : Sp) : R2 := fun x y H Q => ∃ a dx fs b dy gs, x = .ref a ∧ y = .ref b ∧ H a = some (.ins C dx fs) ∧ H b = some (.ins C dy gs) ∧ sp [.ref a, .ref b] H (fun v H' => ∃ r, v = .bl r ∧ Q (.bl (!r)) H') E0
theorem op_ownNe (hne : PySem.W.findIn X.K (.ref C) "__ne__" = some (some (.builtin "object.__ne__"))) (hm : PySem.W.mroIn X.K C (.type "object") = some true)
    (M : Mn X.prog X.w X.K X.mg X.base k C "__eq__" ps sp) (hr : Room (k + 1) X.A) : OpR X (compareOp .NotEq) (rOwnNe C sp) := by
  intro pins s σ H x y v u Q I rx ry h
  obtain ⟨a, dx, fs, b, dy, gs, rfl, rfl, ha, hb, q⟩ := h
  obtain rfl : v = Value.ref a := rx
  obtain rfl : u = Value.ref b := ry
  obtain ⟨g, fd, h1, h2, h3⟩ := M
  obtain ⟨od, J⟩ := inst_of I ha
  obtain ⟨od', J'⟩ := inst_of I hb
  have XK := I.kIn
  have SN := PySem.F.cmp_object.ne
  -- the def's own run, one deeper
  have run : codeAny (model X.prog X.w) X.A.in1 (.call (.ref g) ⟨[.ref a, .ref b], []⟩) (CR (fun _ _ _ _ _ _ => False) X.stack X.prog X.w H s (fun v H' => ∃ r, v = .bl r ∧ Q (.bl (!r)) H') E0) s := by
    have r2 : Vals [V.ref a, V.ref b] [Value.ref a, Value.ref b] := .cons rfl (.cons rfl .nil)
    have hl := h3.len _ _ _ _ q
    exact h3.run X.A.in1 X.stack s H ⟨[.ref a, .ref b], []⟩ [.ref a, .ref b] [.ref a, .ref b] _ E0 hr.in1 I.env0.in1 (h2 s [.ref a, .ref b] I.kIn hl) r2 q
  have body : wpAny (model X.prog X.w) X.A (call (.builtin "object.__ne__") [.ref a, .ref b]) (fun r s' => ∃ t, r = Value.bool t ∧ EP X pins σ Q (.bool t) s') X.xe s := by
    have sub : PySem.W.Looks (model X.prog X.w) s.heap (isInstance (.ref a) (.type "object")) true := J.type.andThen (PySem.W.looks_mroIn XK hm)
    refine wpAny_call (codeAny_call_builtin SN.plain PySem.F.cmpEntry_ne (@PySem.W.check_slot (model X.prog X.w) _ _ s "object.__ne__" "object" "__ne__" (.ref a) [.ref b] [] _ PySem.F.cmpKind_ne PySem.F.cmpSplit_ne sub (PySem.F.cmpArgs_ne _ _) ?_))
    unfold Builtin.«object.__ne__»
    refine wpAny_bind (wpAny_pure ?_)
    have hu : X.A.in1.units < cLine := hr.in1.units0
    refine wpAny_bind (wpAny_cRoomFor hu ?_)
    refine wpAny_bind (PySem.W.ifBound_K (od := some od) XK J h1.at_ h1.fn (wpAny_call (codeAny_mono run fun r s' hq => ?_)))
    cases r with
    | error e => exact hq.elim
    | ok fl =>
      cases fl with
      | ret u =>
        obtain ⟨v', H', I', rz, t, rfl, qz⟩ := I.after hq
        cases rz
        refine wpAny_bind (wpAny_truthy_bool ?_)
        exact wpAny_pure ⟨!t, rfl, .bl (!t), H', I', rfl, qz⟩
      | next => exact False.elim hq
      | brk => exact False.elim hq
      | cont => exact False.elim hq
  have one : wpAny (model X.prog X.w) X.A (tryCompare (.ref a) "__ne__" (.ref b)) (fun r s' => ∃ v, r = some v ∧ EP X pins σ Q v s') X.xe s := by
    unfold tryCompare
    refine wpAny_bind ?_
    simp only [callSpecialIfBound?, bindSpecialIfBound?]
    refine wpAny_holding (wpAny_bind (wpAny_bind (wpAny_bind (J.type.here ((PySem.W.looks_findIn XK hne).here ?_)))))
    have fin : wpAny (model X.prog X.w) X.A (call (.builtin "object.__ne__") ([.ref a] ++ [.ref b]) >>= fun v => pure (some v)) (fun r s' => wpAny (model X.prog X.w) X.A (match r with | some .notImplemented | none => pure none | some v => pure (some v)) (fun r s' => ∃ v, r = some v ∧ EP X pins σ Q v s') X.xe s') X.xe s :=
      wpAny_bind (wpAny_mono body (fun r s' hr' => by obtain ⟨t, rfl, e⟩ := hr'; exact wpAny_pure (wpAny_pure ⟨_, rfl, e⟩)) fun _ _ z => z)
    refine wpAny_bind (wpAny_askSetting (wpAny_ite ?_))
    split
    · rw [SN.bind]
      exact wpAny_bind (wpAny_pure (wpAny_pure fin))
    · rw [SN.bind]
      exact wpAny_tryCatch (wpAny_bind (wpAny_pure (wpAny_pure fin)))
  show wpAny _ _ (richCompare .NotEq _ _) _ _ _
  unfold richCompare
  simp only [PySem.oneThing_ref]
  have e0 : ((Value.ref C != Value.ref C) = true) = False := by simp
  refine wpAny_holding (wpAny_bind (wpAny_cRoomFor hr.units0 (wpAny_bind (J.type.here (wpAny_bind (J'.type.here ?_))))))
  simp only [e0, if_false]
  refine wpAny_bind (wpAny_pure ?_)
  simp only [Bool.false_eq_true, if_false]
  refine wpAny_bind (wpAny_mono one (fun r s' z => ?_) fun _ _ e => e)
  obtain ⟨v, rfl, hq⟩ := z
  exact wpAny_pure hq
end
end Fp

namespace Fp
open PySem PySem.Spec PyProof.Rows L2
local macro_rules | `(tactic| walk_at "rd") => `(tactic| simp only [cxK, cxKn, tRet, tRetN, rIntI, rIntB, rLenL, rListL, rListT, rAbs, tDisp, tPairs, tC, tCB, tCons, tNil, tSl, tVar, tNoPart, tPart, rSlL, tOp, tAsg, gName, tIfS, tDrop, tTest, tAnd, tOr, Evl.tCut, tNot, tB, rI0, rI, rIxL, rIxT, rIxD, tDGet, sDPut, tLst, tTup, tBM, tBM0, tPar, rAppend, rPopAt, rPop, rExtend, rTupL, tCall, tNext, rAll, rOwnIn, rOwn2, rCat, lc_iL, lc_iT, lc_iK, lc_iR, fr_iL, fr_iT, fr_iR, tYes, rIn, rEq, rNe, gTup, gCons, gNil, wipe, tMeth, tFld, sFld, tMake, tProp, tIf, tAndV, tOrV, tNotV, if_true, if_false, Bool.false_eq_true, List.map_cons, List.map_nil, List.nil_append, List.append_nil, List.cons_append, List.getElem?_cons_zero, List.getElem?_cons_succ, Option.some.injEq, exists_and_left, exists_eq_left', exists_eq_left, List.cons.injEq, and_true, true_and, V.ref.injEq, V.int.injEq, V.str.injEq, V.bl.injEq, List.set_cons_zero, List.set_cons_succ])
theorem seqi {t u : TS} {D : Ends} {σ : L2.St} {H : Hp} (h : ∀ k : L2.St → Hp → Prop, k = u D → t { D with nx := k } σ H) : tSeq t u D σ H := h _ rfl
theorem tSeq_eq {t u : TS} {D : Ends} {σ : L2.St} {H : Hp} : tSeq t u D σ H = t { D with nx := u D } σ H := rfl
section
variable {K : PySem.W.Frag} {P : Program} {w : World} {base : Heap} {mg : Str → Option Value}
theorem cxK {CX : CXT} {N : List Str} {qual : Str} {sc : Scope} {f : Addr} {cdv : Value} {A : Around} {outer : List Env} {s : Shared} {H : Hp} {E : XK} : (cxOf CX P w K mg base N qual sc f cdv A outer s H E).K = K := rfl
theorem cxKn {CX : CXT} {N : List Str} {qual : Str} {sc : Scope} {f : Addr} {cdv : Value} {A : Around} {outer : List Env} {s : Shared} {H : Hp} {E : XK} : (cxOf CX P w K mg base N qual sc f cdv A outer s H E).nox.K = K := rfl
end
section
variable {K : PySem.W.Frag} {P : Program} {w : World} {base : Heap} {mg : Str → Option Value}
end

/-! ### the mathematics: rules by number -/
def rn (i : Nat) : Str := (["grouping", "order", "middle", "first", "last", "ends", "keep", "take", "vanish"] : List Str).getD i ""
def kn (i : Nat) : Str := (["trees", "pairs", "words", "bags", "parity", "middles", "heads", "tails", "sets", "outer", "lefts", "rights", "one"] : List Str).getD i ""
def KR (i : Nat) : List Nat := [[], [1], [0], [0, 1], [0, 1, 8], [0, 2], [0, 2, 3], [0, 2, 4], [0, 1, 2, 3, 4], [0, 2, 5], [0, 2, 3, 5, 6], [0, 2, 4, 5, 7], [0, 1, 2, 3, 4, 5, 6, 7, 8]].getD i []
abbrev R9 : List Nat := [0, 1, 2, 3, 4, 5, 6, 7, 8]
abbrev K13 : List Nat := [0, 1, 2, 3, 4, 5, 6, 7, 8, 9, 10, 11, 12]
def ruD (l : List Nat) : PyData := .list (l.map fun i => .str (rn i))
def kiD (i : Nat) : PyData := .tuple [.str (kn i), ruD (KR i)]
def thD : PyData := .list (K13.map kiD)
section
variable {K : PySem.W.Frag} {P : Program} {w : World} {base : Heap} {mg : Str → Option Value}
def spNine : Sp := fun vs H Q _ => vs = [] ∧ ∀ v H', Same H H' → Dt H' v (ruD R9) → Q v H'
def spThir : Sp := fun vs H Q _ => vs = [] ∧ ∀ v H', Same H H' → Dt H' v thD → Q v H'
end

/-! ### more mathematics -/
def hasB (k : Nat) (ns : List Nat) : Bool := ns.all fun n => decide (n ∈ KR k)
def clos (ns : List Nat) : List Nat := R9.filter fun r => ((K13.filter fun k => hasB k ns).filter fun k => !decide (r ∈ KR k)).isEmpty
theorem rn_inj : ∀ i ∈ R9, ∀ j ∈ R9, rn i = rn j → i = j := by decide
def rS (l : List Nat) : List Str := l.map rn
theorem mem_rS {i : Nat} {l : List Nat} (hi : i ∈ R9) (hl : ∀ j ∈ l, j ∈ R9) : (rn i ∈ rS l) = (i ∈ l) := propext ⟨fun h => by
  obtain ⟨j, hj, e⟩ := List.mem_map.mp h
  rw [← rn_inj j (hl j hj) i hi e]
  exact hj, fun h => List.mem_map_of_mem h⟩
theorem KR_in : ∀ k ∈ K13, ∀ j ∈ KR k, j ∈ R9 := by decide
theorem ruD_eq (l : List Nat) : ruD l = .list ((rS l).map PyData.str) := by
  unfold ruD rS
  rw [List.map_map]
  rfl
theorem shp_rn : ∀ i ∈ R9, (PyData.str (rn i)).canLay0 = true ∧ (PyData.str (rn i)).depth ≤ 0 := by decide +kernel
theorem shp_ru {l : List Nat} (h : ∀ j ∈ l, j ∈ R9) : Shp 1 (ruD l) := shp_lst fun d hd => by
  obtain ⟨i, hi, rfl⟩ := List.mem_map.mp hd
  exact shp_rn i (h i hi)
theorem filter_empty {α : Type} (p : α → Bool) : ∀ l : List α, (l.filter fun x => !p x).isEmpty = l.all p
  | [] => rfl
  | x :: r => by
    rw [List.filter_cons, List.all_cons, ← filter_empty p r]
    cases p x with
    | true => rfl
    | false => rfl
theorem map_empty {α β : Type} (f : α → β) (l : List α) : (l.map f).isEmpty = l.isEmpty := by cases l <;> rfl
theorem dts_rS {H : Hp} : ∀ l : List Nat, Dts H ((rS l).map V.str) (l.map fun n => PyData.str (rn n))
  | [] => .nil
  | n :: r => .cons (.str _) (dts_rS r)
theorem Dt.rules {H : Hp} {v : V} {l : List Nat} (h : Dt H v (ruD l)) : ∃ a, v = .ref a ∧ H a = some (.lst ((rS l).map V.str)) := by
  rw [ruD_eq] at h
  cases h with
  | lst h1 t => exact ⟨_, rfl, by rw [h1, Dts.strs t]⟩
section
variable {K : PySem.W.Frag} {P : Program} {w : World} {base : Heap} {mg : Str → Option Value}
/-- names: rules by number -/
def spClos : Sp := fun vs H Q _ => ∃ v ns, vs = [v] ∧ Dt H v (ruD ns) ∧ (∀ n ∈ ns, n ∈ R9) ∧ ns.length ≤ 9 ∧ ∀ v H', Same H H' → Dt H' v (ruD (clos ns)) → Q v H'
end

theorem perm_erase {α : Type} : ∀ (l : List α) (i : Nat) (x : α), l[i]? = some x → (x :: l.eraseIdx i).Perm l
  | [], _, _, h => by simp at h
  | y :: r, 0, x, h => by
    cases h
    exact List.Perm.refl _
  | y :: r, i + 1, x, h => by
    have ih := perm_erase r i x h
    exact (List.Perm.swap y x _).trans (ih.cons y)
section
variable {K : PySem.W.Frag} {P : Program} {w : World} {base : Heap} {mg : Str → Option Value}
def spShuf : Sp := fun vs H Q _ => ∃ p c v t ds n, vs = [.ref p, v] ∧ PenOk H p c t ∧ Dt H v (.list ds) ∧ (∀ d ∈ ds, Shp n d) ∧ n ≤ 60 ∧ ds.length ≤ 900 ∧ t ≤ 900000000 ∧
  ∀ a H' es, es.Perm ds → PenOk H' p c (t + ds.length) → But p H H' → Dt H' (.ref a) (.list es) → Q (.ref a) H'
end
/-! ### the mathematics of closing -/
def sub (b : Nat) : List Nat := R9.filter fun i => b.testBit i
def weak (ns : List Nat) : Nat := (K13.filter fun k => hasB k ns).headD 0
def allOk (b : Nat) : Bool :=
  decide (KR (weak (sub b)) = clos (sub b)) && decide ((K13.filter fun k => decide (KR k = clos (sub b))) = [weak (sub b)])
theorem all_ok : (List.range 512).all allOk = true := by decide +kernel
theorem sub_ok {b : Nat} (h : b < 512) : KR (weak (sub b)) = clos (sub b) ∧ (K13.filter fun k => decide (KR k = clos (sub b))) = [weak (sub b)] := by
  have h1 := List.all_eq_true.mp all_ok b (List.mem_range.mpr h)
  unfold allOk at h1
  rw [Bool.and_eq_true, decide_eq_true_eq, decide_eq_true_eq] at h1
  exact h1
theorem sub_in {b i : Nat} (h : i ∈ sub b) : i ∈ R9 := (List.mem_filter.mp h).1
theorem sub_len (b : Nat) : (sub b).length ≤ 9 := List.length_filter_le _ _
theorem clos_in {ns : List Nat} {i : Nat} (h : i ∈ clos ns) : i ∈ R9 := (List.mem_filter.mp h).1
theorem has_one {ns : List Nat} (h : ∀ n ∈ ns, n ∈ R9) : hasB 12 ns = true := List.all_eq_true.mpr fun n hn => decide_eq_true (h n hn)
theorem weak_head {ns : List Nat} (h : ∀ n ∈ ns, n ∈ R9) : (K13.filter fun k => hasB k ns)[0]? = some (weak ns) ∧ weak ns ∈ K13 := by
  have hm : 12 ∈ K13.filter fun k => hasB k ns := List.mem_filter.mpr ⟨by decide, has_one h⟩
  unfold weak
  cases e : (K13.filter fun k => hasB k ns) with
  | nil => rw [e] at hm; cases hm
  | cons k r => exact ⟨rfl, (List.mem_filter.mp (show k ∈ K13.filter fun k => hasB k ns by rw [e]; exact List.mem_cons_self)).1⟩
theorem kinds_ok : K13.all (fun k => decide (weak (KR k) = k)) = true := by decide +kernel
theorem weak_KR {k : Nat} (h : k ∈ K13) : weak (KR k) = k := of_decide_eq_true (List.all_eq_true.mp kinds_ok k h)
theorem KR_sorted : K13.all (fun k => decide (R9.filter (fun i => decide (i ∈ KR k)) = KR k)) = true := by decide +kernel
theorem KR_filter {k : Nat} (h : k ∈ K13) : R9.filter (fun i => decide (i ∈ KR k)) = KR k := of_decide_eq_true (List.all_eq_true.mp KR_sorted k h)
theorem sub_filter (b : Nat) : R9.filter (fun i => decide (i ∈ sub b)) = sub b := by
  unfold sub
  refine List.filter_congr fun i hi => ?_
  cases h : b.testBit i with
  | true => exact decide_eq_true (List.mem_filter.mpr ⟨hi, h⟩)
  | false => exact decide_eq_false fun z => absurd (List.mem_filter.mp z).2 (by rw [h]; decide)
theorem kn_rn : K13.all (fun k => R9.all fun i => !decide (kn k = rn i)) = true := by decide +kernel
theorem eqv_strs : ∀ a b : List Str, PyData.eqvAll (a.map PyData.str) (b.map PyData.str) = decide (a = b)
  | [], [] => rfl
  | [], _ :: _ => rfl
  | _ :: _, [] => rfl
  | x :: a, y :: b => by
    show ((x == y) && PyData.eqvAll (a.map PyData.str) (b.map PyData.str)) = _
    rw [eqv_strs a b]
    by_cases h : x = y
    · subst h
      simp
    · simp [h]
theorem rS_inj : ∀ {a b : List Nat}, (∀ n ∈ a, n ∈ R9) → (∀ n ∈ b, n ∈ R9) → (rS a = rS b) = (a = b)
  | [], [], _, _ => by simp
  | [], _ :: _, _, _ => by simp [rS]
  | _ :: _, [], _, _ => by simp [rS]
  | x :: a, y :: b, ha, hb => by
    have ih := rS_inj (a := a) (b := b) (fun n hn => ha n (List.mem_cons_of_mem _ hn)) (fun n hn => hb n (List.mem_cons_of_mem _ hn))
    have hx := ha x List.mem_cons_self
    have hy := hb y List.mem_cons_self
    have e1 : (rn x = rn y) = (x = y) := propext ⟨fun e => rn_inj x hx y hy e, fun e => by rw [e]⟩
    show (rn x :: rS a = rn y :: rS b) = _
    simp only [List.cons.injEq]
    rw [e1, ih]
theorem eqv_ru {a b : List Nat} (ha : ∀ n ∈ a, n ∈ R9) (hb : ∀ n ∈ b, n ∈ R9) : PyData.eqv (ruD a) (ruD b) = decide (a = b) := by
  rw [ruD_eq, ruD_eq]
  show PyData.eqvAll _ _ = _
  rw [eqv_strs, decide_eq_decide.mpr (iff_of_eq (rS_inj ha hb))]

/-! ### what the top has written of rules -/
def kS : List Str := K13.map kn
structure TxR (K : PySem.W.Frag) (w : World) (mg : Str → Option Value) (aR aD C : Addr) (T : Nat → Addr) : Prop where
  mR : mg "_RULES" = some (.ref aR)
  mD : mg "_RULES_OF" = some (.ref aD)
  mC : mg "Rules" = some (.ref C)
  sR : ∀ H, SqT K H aR ((rS R9).map V.str)
  kk : KKeys K aD kS
  dD : ∃ es n, KDict K w aD es n
  dI : ∀ k ∈ K13, KDct K w aD (kn k) (.ref (T k))
  sT : ∀ k ∈ K13, ∀ H, SqT K H (T k) ((rS (KR k)).map V.str)
  cl : Cls K C
  nN : NoAttr K C "_names"
  nK : NoAttr K C "_kind"
  m_list : mg "list" = none
  m_all : mg "all" = none
  m_tuple : mg "tuple" = none
  m_isi : mg "isinstance" = none
section
variable {K : PySem.W.Frag} {P : Program} {w : World} {base : Heap} {mg : Str → Option Value} {aR aD C : Addr} {T : Nat → Addr}
def spRulesOf : Sp := fun vs H Q _ => ∃ k ∈ K13, vs = [.str (kn k)] ∧ ∀ v H', Same H H' → Dt H' v (ruD (KR k)) → Q v H'
def spHas (K : PySem.W.Frag) : Sp := fun vs H Q _ => ∃ a b k ns, vs = [.ref a, .ref b] ∧ k ∈ K13 ∧ (∀ n ∈ ns, n ∈ R9) ∧ ns.length ≤ 9 ∧ SqT K H a ((rS (KR k)).map V.str) ∧ SqT K H b ((rS ns).map V.str) ∧
  ∀ H', Same H H' → Q (.bl (hasB k ns)) H'
def spWeak (K : PySem.W.Frag) : Sp := fun vs H Q _ => ∃ b ns, vs = [.ref b] ∧ (∀ n ∈ ns, n ∈ R9) ∧ ns.length ≤ 9 ∧ SqT K H b ((rS ns).map V.str) ∧ ∀ H', Same H H' → Q (.str (kn (weak ns))) H'
theorem dts_bools {H : Hp} : ∀ {bs : List Bool} {vs : List V}, Dts H vs (bs.map PyData.bool) → vs = bs.map V.bl
  | [], _, .nil => rfl
  | z :: r, _, .cons (.bl _) t => by rw [dts_bools t]; rfl
end

def rFl (t : Addr) (k : Str) : List (Str × V) := putF "_kind" (.str k) (putF "_names" (.ref t) [])
theorem s_nk : ¬ (("_names" : Str) = "_kind") := by decide +kernel
theorem rFl_names (t : Addr) (k : Str) : (rFl t k).lookup ("_names" : Str) = some (.ref t) := by
  unfold rFl
  rw [lookup_putF, if_neg s_nk, lookup_putF, if_pos rfl]
theorem rFl_kind (t : Addr) (k : Str) : (rFl t k).lookup ("_kind" : Str) = some (.str k) := by
  unfold rFl
  rw [lookup_putF, if_pos rfl]
theorem rFl_no (t : Addr) (k m : Str) (h1 : ¬ m = "_kind") (h2 : ¬ m = "_names") : (rFl t k).lookup m = none := by
  unfold rFl
  rw [lookup_putF, if_neg h1, lookup_putF, if_neg h2]
  rfl
/-- a set of rules stands at p -/
def RuAt (H : Hp) (C p : Addr) (s : List Nat) : Prop := ∃ dx t, H p = some (.ins C dx (rFl t (kn (weak s)))) ∧ H t = some (.tup ((rS s).map V.str))
theorem RuAt.same {H H' : Hp} {C p : Addr} {s : List Nat} (h : RuAt H C p s) (e : Same H H') : RuAt H' C p s := by
  obtain ⟨dx, t, h1, h2⟩ := h
  exact ⟨dx, t, e _ _ h1, e _ _ h2⟩
section
variable {K : PySem.W.Frag} {P : Program} {w : World} {base : Heap} {mg : Str → Option Value} {aR aD C : Addr} {T : Nat → Addr}
def spInit (C : Addr) : Sp := fun vs H Q _ => ∃ p dx v ns, vs = [.ref p, v] ∧ H p = some (.ins C dx []) ∧ Dt H v (ruD ns) ∧ (∀ n ∈ ns, n ∈ R9) ∧ ns.length ≤ 9 ∧
  ∀ H', (∀ b o, H b = some o → b ≠ p → H' b = some o) → RuAt H' C p (R9.filter fun i => decide (i ∈ ns)) → Q .non H'
end

theorem Same.but {p : Addr} {H H' : Hp} (e : Same H H') : But p H H' := But.of e
section
variable {K : PySem.W.Frag} {P : Program} {w : World} {base : Heap} {mg : Str → Option Value} {aR aD C : Addr} {T : Nat → Addr}
def spListed (C : Addr) : Sp := fun vs H Q _ => ∃ p s, vs = [.ref p] ∧ RuAt H C p s ∧ ∀ v H', Same H H' → Dt H' v (ruD s) → Q v H'
def spKind (C : Addr) : Sp := fun vs H Q _ => ∃ p s, vs = [.ref p] ∧ RuAt H C p s ∧ ∀ H', Same H H' → Q (.str (kn (weak s))) H'
def spClosed (C : Addr) : Sp := fun vs H Q _ => ∃ p s, vs = [.ref p] ∧ RuAt H C p s ∧ weak s ∈ K13 ∧ ∀ p' H', Same H H' → RuAt H' C p' (KR (weak s)) → Q (.ref p') H'
def spCont (C : Addr) : Sp := fun vs H Q _ => ∃ p s z, vs = [.ref p, .str z] ∧ RuAt H C p s ∧ weak s ∈ K13 ∧ ∀ H', Same H H' → Q (.bl (decide (z ∈ rS (KR (weak s))))) H'
def spEq (C : Addr) : Sp := fun vs H Q _ => ∃ p s p' s', vs = [.ref p, .ref p'] ∧ RuAt H C p s ∧ RuAt H C p' s' ∧ (∀ n ∈ s, n ∈ R9) ∧ (∀ n ∈ s', n ∈ R9) ∧ ∀ H', Same H H' → Q (.bl (decide (s = s'))) H'
/-- the kind whose rules are closed under names -/
def spKW : Sp := fun vs H Q _ => ∃ v b, vs = [v] ∧ b < 512 ∧ Dt H v (ruD (sub b)) ∧ ∀ H', Same H H' → Q (.str (kn (weak (sub b)))) H'
end

/-! ### which rules are drawn -/
theorem mk_rules {C : Addr} {H : Hp} {v : V} {l : List Nat} {Q : VK} (hv : Dt H v (ruD l)) (hl : ∀ n ∈ l, n ∈ R9) (hn : l.length ≤ 9) (q : ∀ p H', Same H H' → RuAt H' C p (R9.filter fun i => decide (i ∈ l)) → Q (.ref p) H') :
    ∀ x dx, H x = none → H dx = none → dx ≠ x → spInit C [.ref x, v] (upd (upd H dx (.own x)) x (.ins C dx [])) (fun v H2 => v = .non ∧ Q (.ref x) H2) E0 := by
  intro x dx nx ndx ne
  have e2 : Same H (upd (upd H dx (.own x)) x (.ins C dx [])) := fun b o hb => by
    rw [upd_ne (ne_of_none hb nx), upd_ne (ne_of_none hb ndx)]
    exact hb
  exact ⟨x, dx, v, l, rfl, upd_same, hv.same e2, hl, hn, fun H2 k2 r2 => ⟨rfl, q _ _ (fun b o hb => k2 b o (e2 _ _ hb) (ne_of_none hb nx)) r2⟩⟩
def pick : List Bool → List Nat → List Nat
  | b :: bs, x :: xs => if b = true then x :: pick bs xs else pick bs xs
  | _, _ => []
theorem pick_snoc : ∀ (bs : List Bool) (xs : List Nat) (b : Bool) (x : Nat), xs[bs.length]? = some x → pick (bs ++ [b]) xs = pick bs xs ++ (if b = true then [x] else [])
  | [], [], _, _, h => by simp at h
  | [], y :: r, b, x, h => by
    cases h
    cases b <;> rfl
  | c :: bs, [], _, _, h => by simp at h
  | c :: bs, y :: r, b, x, h => by
    have ih := pick_snoc bs r b x h
    cases c with
    | true =>
      show y :: pick (bs ++ [b]) r = y :: pick bs r ++ _
      rw [ih]
      rfl
    | false => exact ih
def bitsOf : List Bool → Nat
  | [] => 0
  | b :: r => (if b = true then 1 else 0) + 2 * bitsOf r
theorem pick9 : ∀ b0 b1 b2 b3 b4 b5 b6 b7 b8 : Bool, pick [b0, b1, b2, b3, b4, b5, b6, b7, b8] R9 = sub (bitsOf [b0, b1, b2, b3, b4, b5, b6, b7, b8]) ∧ bitsOf [b0, b1, b2, b3, b4, b5, b6, b7, b8] < 512 := by decide +kernel
theorem pick_sub {bs : List Bool} (h : bs.length = 9) : ∃ b, b < 512 ∧ pick bs R9 = sub b := by
  match bs, h with
  | [b0, b1, b2, b3, b4, b5, b6, b7, b8], _ => exact ⟨_, (pick9 b0 b1 b2 b3 b4 b5 b6 b7 b8).2, (pick9 b0 b1 b2 b3 b4 b5 b6 b7 b8).1⟩
theorem pick_len : ∀ (bs : List Bool) (xs : List Nat), (pick bs xs).length ≤ bs.length
  | [], _ => Nat.le_of_eq (by cases ‹List Nat› <;> rfl)
  | _ :: _, [] => Nat.zero_le _
  | b :: bs, x :: xs => by
    have ih := pick_len bs xs
    cases b with
    | true => exact Nat.succ_le_succ ih
    | false => exact Nat.le_succ_of_le ih
theorem perm_map_inv {α β : Type} {f : α → β} {es m : List β} (h : es.Perm m) : ∀ l : List α, m = l.map f → ∃ l' : List α, l'.Perm l ∧ es = l'.map f := by
  induction h with
  | nil => exact fun l e => ⟨l, List.Perm.refl _, e⟩
  | cons x _ ih =>
    intro l e
    cases l with
    | nil => cases e
    | cons a r =>
      injection e with e1 e2
      obtain ⟨r', p, e3⟩ := ih r e2
      exact ⟨a :: r', p.cons a, by rw [e1, e3]; rfl⟩
  | swap x y l0 =>
    intro l e
    match l, e with
    | a :: b :: r, e =>
      injection e with e1 e2
      injection e2 with e2 e3
      exact ⟨b :: a :: r, List.Perm.swap a b r, by rw [e1, e2, e3]; rfl⟩
  | trans _ _ ih1 ih2 =>
    intro l e
    obtain ⟨l2, p2, e2⟩ := ih2 l e
    obtain ⟨l1, p1, e1⟩ := ih1 l2 e2
    exact ⟨l1, p1.trans p2, e1⟩
theorem filter_perm {a b : List Nat} (h : a.Perm b) : R9.filter (fun i => decide (i ∈ a)) = R9.filter fun i => decide (i ∈ b) :=
  List.filter_congr fun i _ => decide_eq_decide.mpr h.mem_iff
def kS2 : List Str := kS ++ [("" : Str), ("q" : Str)]
theorem kS2_no : K13.all (fun k => kS2.all fun z => !decide (z ∈ rS (KR k))) = true := by decide +kernel
theorem weak_in (b : Nat) : weak (sub b) ∈ K13 := (weak_head fun n hn => sub_in hn).2
theorem shp_kS2 : ∀ z ∈ kS2, Shp 0 (.str z) := by
  have h : kS2.all (fun z => (PyData.str z).canLay0) = true := by decide +kernel
  exact fun z hz => ⟨List.all_eq_true.mp h z hz, Nat.le_refl _⟩
theorem RuAt.but {p : Addr} {kvs : List (Key × V)} {H H' : Hp} {C q : Addr} {s : List Nat} (hp : H p = some (.dK kvs)) (h : RuAt H C q s) (e : But p H H') : RuAt H' C q s := by
  obtain ⟨dx, t, h1, h2⟩ := h
  exact ⟨dx, t, e.1 _ _ h1 (ne_of h1 hp (by intro z; cases z)), e.1 _ _ h2 (ne_of h2 hp (by intro z; cases z))⟩
section
variable {K : PySem.W.Frag} {P : Program} {w : World} {base : Heap} {mg : Str → Option Value} {aR aD C : Addr} {T : Nat → Addr}
def spLaw (K : PySem.W.Frag) : Sp := fun vs H Q _ => ∃ (a : Addr) (ns : List Int), vs = [.ref a] ∧ SqL K H a (ns.map V.int) ∧ ns.length ≤ 63 ∧ ∀ H', Q (.bl true) H'
end

end Fp

/-! more rules at a written part K -/
namespace Fp
open PySem PySem.Spec PyProof.Rows L2
section
variable {X : Cx} {K : PySem.W.Frag}
/-- == of data, the one side flat enough -/
def rEqC (K : PySem.W.Frag) : R2 := fun x y H Q => ∃ d e, Dp K H x d ∧ Dp K H y e ∧ d.canLay0 = true ∧ e.canLay0 = true ∧ min d.depth e.depth ≤ 64 ∧ Q (.bl (PyData.eqv d e)) H
def rNeC (K : PySem.W.Frag) : R2 := fun x y H Q => ∃ d e, Dp K H x d ∧ Dp K H y e ∧ d.canLay0 = true ∧ e.canLay0 = true ∧ min d.depth e.depth ≤ 64 ∧ Q (.bl (!PyData.eqv d e)) H
theorem op_eqC (hu : X.A.units + 64 < cLine) (hK : X.K = K := by rfl) : OpR X (compareOp .Eq) (rEqC K) := by
  subst hK
  intro pins s σ H x y v u Q I rx ry h
  obtain ⟨d, e, hd, he, sd, se, hm, q⟩ := h
  obtain ⟨as, r1⟩ := Dp.reads I d x v hd rx
  obtain ⟨bs, r2⟩ := Dp.reads I e y u he ry
  exact SeqAt.compareEq_reads r1 r2 sd se (by omega) ⟨.bl _, H, I, rfl, q⟩
theorem op_neC (hu : X.A.units + 64 < cLine) (hK : X.K = K := by rfl) : OpR X (compareOp .NotEq) (rNeC K) := by
  subst hK
  intro pins s σ H x y v u Q I rx ry h
  obtain ⟨d, e, hd, he, sd, se, hm, q⟩ := h
  obtain ⟨as, r1⟩ := Dp.reads I d x v hd rx
  obtain ⟨bs, r2⟩ := Dp.reads I e y u he ry
  exact SeqAt.compareNe_reads r1 r2 sd se (by omega) ⟨.bl _, H, I, rfl, q⟩
theorem call_isi1 (hK : X.K = K := by rfl) : CallR X (.builtin "isinstance") (rIsi K) := hK ▸ call_isi
theorem cr_sumK (hc : X.calm = true) (hK : X.K = K := by rfl) : CallR X (.builtin "sum") (rSum K) := hK ▸ cr_sum hc
def tTru (K : PySem.W.Frag) (ta : TE) : TT := fun σ H Q => ta σ H fun x H' => ∃ k, TruV K x H' k ∧ Q k H'
theorem pt_truthK {a : Expr} {ta : TE} (ha : PE X a ta) (he : ∀ whole, isTrue a X.env whole = (do let v ← whole; standAt a.pos; holding [v] (truthy v)) := by exact fun _ => rfl) (hK : X.K = K := by rfl) : PT X a (tTru K ta) := by
  subst hK
  exact pt_truth ha he
theorem pe_revK {e : Expr} {te : TE} {k : Nat} {p1 p2 p3 pos : Pos} (he : PE X e te) (hK : X.K = K := by rfl) : PE X (.Subscript e (.Slice none none (some (.UnaryOp .USub (.Constant (.int 1) k p1) p2)) p3) pos) (tRevL K te) := by
  subst hK
  exact pe_revL he
/-- a list against the empty one -/
theorem ne_nilC {H : Hp} {v : V} {q : Addr} {ds : List PyData} {Q : VK} (h : Dt H v (.list ds)) (hs : PyData.canLayAll0 ds = true) (hq : H q = some (.lst [])) (k : Q (.bl (!ds.isEmpty)) H) : rNeC K v (.ref q) H Q := by
  refine ⟨.list ds, .list [], h.dp, .lst (.inl (.inl hq)) .nil, hs, rfl, Nat.le_trans (Nat.min_le_right _ _) (by decide), ?_⟩
  cases ds <;> exact k
end
end Fp

/-! lambdas with parameters and without captured names: made, held, called -/
namespace Fp
open PySem PySem.Spec PyProof.Rows L2 LamX
/-- what a lambda is in the text -/
structure Lm where
  qual : Str
  ps : Arguments
  bd : Expr
  sc : Scope
def LamF (f c : Addr) (l : Lm) : HO := .ext fun h => ∃ pm ctv : Value, h.get? f = some (PySem.W.kla_obj "<lambda>" l.qual l.ps l.bd l.sc [] pm c ctv)
/-- the lambda stands at f -/
def LamAt (H : Hp) (f : Addr) (l : Lm) : Prop := ∃ c, H f = some (LamF f c l) ∧ H c = some (CodeO c l.qual)
theorem LamAt.ext {H H' : Hp} {f : Addr} {l : Lm} (h : LamAt H f l) (e : ExtN H H') : LamAt H' f l := by
  obtain ⟨c, h1, h2⟩ := h
  refine ⟨c, e _ _ h1 fun ps z => ?_, e _ _ h2 codeO_ne⟩
  unfold LamF at z
  cases z
theorem LamAt.same {H H' : Hp} {f : Addr} {l : Lm} (h : LamAt H f l) (e : Same H H') : LamAt H' f l := h.ext (ExtN.of e)
section
variable {X : Cx} {pins : List (Addr × Obj)} {σ : L2.St} {H : Hp} {s : Shared}
theorem lam_lay {f c : Addr} {l : Lm} {pm ctv : Value} {hp : Heap} {tk : Nat} (I : Inv X pins σ H { s with heap := hp, toks := tk }) (ef : f = hp.objs.size) (hc : H c = some (CodeO c l.qual)) :
    Inv X pins σ (upd H f (LamF f c l)) { s with heap := hp.push (PySem.W.kla_obj "<lambda>" l.qual l.ps l.bd l.sc [] pm c ctv), toks := tk } := by
  have kp : ∀ b u, hp.get? b = some u → (hp.push (PySem.W.kla_obj "<lambda>" l.qual l.ps l.bd l.sc [] pm c ctv)).get? b = some u := fun b u z => Heap.get?_push_of_some _ z
  have gf : (hp.push (PySem.W.kla_obj "<lambda>" l.qual l.ps l.bd l.sc [] pm c ctv)).get? f = some (PySem.W.kla_obj "<lambda>" l.qual l.ps l.bd l.sc [] pm c ctv) := by
    rw [ef]
    exact Heap.get?_push_size _ rfl
  exact Inv.laid (s := { s with heap := hp, toks := tk }) (a := f) (o := LamF f c l) (t' := tk) I kp (Nat.le_of_eq ef.symm) ⟨⟨pm, ctv, gf⟩, ⟨_, gf⟩, fun h1 h2 ⟨a, b, z⟩ st => ⟨a, b, st _ z⟩⟩
/-- the table P of the code object c: which names its entries bear -/
structure Mak (base : Heap) (mg : Str → Option Value) (T : List (Addr × Str)) (cd : Value) (q : Str) : Prop where
  ex : ∃ c P, cd = .ref c ∧ TabB base mg c P ∧ (P, q) ∈ T ∧ ∀ p ∈ T, p.1 = P → p.2 = q
def tLamV (T : List (Addr × Str)) (l : Lm) : TE := fun _ H Q => Tabs T H ∧ ∀ f H1, ExtN H H1 → Tabs T H1 → LamAt H1 f l → Q (.ref f) H1
theorem pe_lamV {T : List (Addr × Str)} {qual : Str} {params : Arguments} {body : Expr} {scope : Scope} {pos : Pos} (M : Mak X.base X.mg T X.env.code qual) (hq : qual = X.env.qual ++ "<lambda>") (hdef : defaultsOf params X.env = ([], [])) (hfree : ∀ y ∈ scope.names, y.2 ≠ .free) (hcl : cloFrom X.env.cells scope.names [] = []) :
    PE X (.Lambda params body scope pos) (tLamV T ⟨qual, params, body, scope⟩) := by
  subst hq
  refine ⟨fun pins s σ H Q I hyp => ?_⟩
  obtain ⟨hT, hyp⟩ := hyp
  obtain ⟨c, P, hcode, TB, hm, hu⟩ := M.ex
  obtain ⟨ps, hP, ht, ha⟩ := hT _ hm
  refine PySem.W.kla_eval hdef ?_
  have b1 : s.heap.BuiltinsAt X.mg P := TB.bm.keeps I.bk
  have b2 : s.heap.get? P = some { cls := .none, data := .fields ps } := I.hok P _ hP
  have b3 := I.mod.glob.keeps I.bk
  have b4 := TB.code.keeps I.bk
  have clo := closure_ok (env := X.env) (scope := scope) fun y hy e => absurd e (hfree y hy)
  rw [hcl] at clo
  cases hc : codeAmong pos ps.toList with
  | none =>
    refine PySem.W.kla_makeFunction (mg := X.mg) (c := c) (P := P) (ps := ps) clo I.ok.glob b3 hcode b4 b2 ht hc TB.gP b1 fun c' ctv h' tk hx hge hlt hrec htb => ?_
    obtain ⟨c2, oc, vs, t, e2, hoc, hd, hv⟩ := hrec
    cases e2
    have nC : H c' = none := I.hok.fresh hge
    have nP : P ≠ c' := ne_of_none hP nC
    have I1 := inv_table (q := X.env.qual ++ "<lambda>") (t' := tk) (more := #[rawInt pos.line, rawInt pos.col, .ref c']) I hP hx htb hge ⟨oc, vs, t, hoc, hd, hv⟩
    have E1 : ExtN H (upd (upd H P (.tbl (ps ++ #[rawInt pos.line, rawInt pos.col, .ref c']))) c' (CodeO c' (X.env.qual ++ "<lambda>"))) := fun b o e n => by
      rw [upd_ne (ne_of_none e nC), upd_ne]
      · exact e
      · intro z
        rw [z, hP] at e
        exact n ps (Option.some.inj e).symm
    have T1 : Tabs T (upd (upd H P (.tbl (ps ++ #[rawInt pos.line, rawInt pos.col, .ref c']))) c' (CodeO c' (X.env.qual ++ "<lambda>"))) := fun p hp => by
      by_cases hb : p.1 = P
      · rw [hu p hp hb, hb]
        have eL : (ps ++ #[rawInt pos.line, rawInt pos.col, .ref c']).toList = ps.toList ++ [rawInt pos.line, rawInt pos.col, .ref c'] := by simp
        refine ⟨_, (upd_ne nP).trans upd_same, eL ▸ PySem.TriplesOk_snoc _ _ _ _ ht, fun p' cv z => ?_⟩
        rw [eL] at z
        rcases among_app _ ht z with z | z
        · obtain ⟨c0, e1, e2⟩ := ha p' cv z
          exact ⟨c0, e1, E1 _ _ e2 codeO_ne⟩
        · exact ⟨c', z, upd_same⟩
      · obtain ⟨ps', a1, a2, a3⟩ := hT p hp
        refine ⟨ps', by rw [upd_ne (ne_of_none a1 nC), upd_ne hb]; exact a1, a2, fun p' cv z => ?_⟩
        obtain ⟨c0, e1, e2⟩ := a3 p' cv z
        exact ⟨c0, e1, E1 _ _ e2 codeO_ne⟩
    have nF : (upd (upd H P (.tbl (ps ++ #[rawInt pos.line, rawInt pos.col, .ref c']))) c' (CodeO c' (X.env.qual ++ "<lambda>"))) h'.objs.size = none := I1.hok.fresh (Nat.le_refl _)
    have I2 := lam_lay (f := h'.objs.size) (c := c') (l := ⟨X.env.qual ++ "<lambda>", params, body, scope⟩) (pm := (X.mg "__name__").getD .none) (ctv := ctv) I1 rfl upd_same
    have E2 := same_new (o := LamF h'.objs.size c' ⟨X.env.qual ++ "<lambda>", params, body, scope⟩) nF
    exact ⟨.ref _, _, I2, rfl, hyp _ _ (E1.trans (ExtN.of E2)) (T1.ext E2) ⟨c', upd_same, E2 _ _ upd_same⟩⟩
  | some cv =>
    obtain ⟨c', e, hco⟩ := ha pos cv hc
    subst e
    refine PySem.W.kla_makeFunctionHit (mg := X.mg) (c := c) (P := P) (ps := ps) clo I.ok.glob b3 hcode b4 b2 ht hc b1 fun ctv h' tk hx hsz => ?_
    have I1 : Inv X pins σ H { s with heap := h', toks := tk } := I.kept hx
    have nF : H h'.objs.size = none := I1.hok.fresh (Nat.le_refl _)
    have I2 := lam_lay (f := h'.objs.size) (c := c') (l := ⟨X.env.qual ++ "<lambda>", params, body, scope⟩) (pm := (X.mg "__name__").getD .none) (ctv := ctv) I1 rfl hco
    have E2 := same_new (o := LamF h'.objs.size c' ⟨X.env.qual ++ "<lambda>", params, body, scope⟩) nF
    exact ⟨.ref _, _, I2, rfl, hyp _ _ (ExtN.of E2) (hT.ext E2) ⟨c', upd_same, E2 _ _ hco⟩⟩
end
/-! ### its call -/
/-- what the lambda promises: its body as a term -/
structure LamOk (P : Program) (w : World) (K : PySem.W.Frag) (mg : Str → Option Value) (base : Heap) (k : Nat) (l : Lm) (N : List Str) (sp : Sp) : Prop where
  scope : FnScope N N l.sc
  binds : ∀ (c : Value) (pm ctv : Value) (us : List Value), us.length = N.length → bindArgs (PySem.W.kla_fn "<lambda>" l.qual l.ps l.bd l.sc [] pm c ctv) ⟨us, []⟩ = pure (N.zip us)
  len : ∀ vs H Q, sp vs H Q E0 → vs.length = N.length
  body : ∀ (f c : Addr) (A : Around) (outer : List Env) (s : Shared) (H : Hp) (vs : List V) (Q : VK), Room k (A.deeper (envOfC l.qual l.sc s.heap.objs.size f (.ref c))) → sp vs H Q E0 →
    ∃ t, PE (cxOf CX0 P w K mg base N l.qual l.sc f (.ref c) A outer s H E0) l.bd t ∧ t (L2.start N vs) H Q
theorem vals_len : ∀ {vs : List V} {us : List Value}, Vals vs us → vs.length = us.length
  | _, _, .nil => rfl
  | _, _, .cons _ r => congrArg Nat.succ (vals_len r)
theorem run_lam {P : Program} {w : World} {K : PySem.W.Frag} {mg : Str → Option Value} {base : Heap} {k : Nat} {l : Lm} {N : List Str} {sp : Sp} {A : Around} {outer : List Env} {s : Shared} {H : Hp} {f : Addr} {us : List Value} {vs : List V} {Q : VK}
    (L : LamOk P w K mg base k l N sp) (hl : LamAt H f l) (hr : Room (k + 1) A) (e0 : Env0 P w K mg base A outer s H) (r : Vals vs us) (h : sp vs H Q E0) :
    codeAny (model P w) A (.call (.ref f) ⟨us, []⟩) (CR CX0 outer P w H s Q E0) s := by
  obtain ⟨c, h1, h2⟩ := hl
  obtain ⟨⟨pm, ctv, of⟩, _, _⟩ := e0.hok f _ h1
  obtain ⟨⟨oc, vv, t, hoc, hdc, hvc⟩, _, _⟩ := e0.hok c _ h2
  have lenU : us.length = N.length := by rw [← L.len vs H Q h]; exact (vals_len r).symm
  have lim : s.heap.NoLimit := e0.mod.nolimit.keeps fun b o e => (e0.bs b o e).1
  have hkind : ∀ y ∈ N.zip us, l.sc.names.lookup y.1 = some .local ∨ (l.sc.names.lookup y.1 = some .cell ∧ ((cellsFrom (s.heap.objs.size + 1) l.sc.names []).lookup y.1).isSome = true) := fun ⟨n, v⟩ hy => by
    rcases L.scope.par n (List.of_mem_zip hy).1 with q | q
    · exact .inl q
    · exact .inr ⟨q, PySem.W.cellsFrom_some _ _ _ (.inl q)⟩
  refine PySem.W.kla_callFunE hr.depth of rfl L.scope.co L.scope.gen rfl ⟨c, oc, vv, t, rfl, hoc, hdc, hvc⟩ ?_
  rw [L.binds _ _ _ _ lenU]
  refine wpAny_pure (wpAny_newFunctionEnv_cells L.scope.kind hkind fun env he s1 x => ?_)
  subst he
  refine ⟨lim.keeps x.toInCall.keep, PySem.W.kla_codeExpr ?_⟩
  obtain ⟨te, ht, hq⟩ := L.body f c A outer s H vs Q (hr.deeper _) h
  have I : Inv (cxOf CX0 P w K mg base N l.qual l.sc f (.ref c) A outer s H E0) [] (L2.start N vs) H s1 := inv_start L.scope hr.hd e0 (L.len vs H Q h) r x
  refine wpAny_mono (ht.run [] s1 (L2.start N vs) H Q I hq) (fun v s' hs => ?_) fun e s' hs => hs
  obtain ⟨w', H', J, rv, q⟩ := hs
  exact ⟨w', H', J.os, J.bare, J.base, J.hok, rv, q⟩
/-- a function of the text, or a lambda, at f -/
def OpAt (P : Program) (w : World) (K : PySem.W.Frag) (mg : Str → Option Value) (base : Heap) (k : Nat) (f : Addr) (sp : Sp) (H : Hp) : Prop :=
  Held P w K mg base k f sp ∨ ∃ l N, LamAt H f l ∧ LamOk P w K mg base (k - 1) l N sp ∧ 0 < k
theorem OpAt.ext {P : Program} {w : World} {K : PySem.W.Frag} {mg : Str → Option Value} {base : Heap} {k : Nat} {f : Addr} {sp : Sp} {H H' : Hp} (h : OpAt P w K mg base k f sp H) (e : ExtN H H') : OpAt P w K mg base k f sp H' := by
  rcases h with h | ⟨l, N, a, b, c⟩
  · exact .inl h
  · exact .inr ⟨l, N, a.ext e, b, c⟩
def tCallO (P : Program) (w : World) (K : PySem.W.Frag) (mg : Str → Option Value) (base : Heap) (k i : Nat) (t : TA) : TE := fun σ H Q => ∃ f sp, σ[i]? = some (some (.ref f)) ∧ OpAt P w K mg base k f sp H ∧ t σ H fun vs H1 => ExtN H H1 ∧ sp vs H1 Q E0
theorem pe_callO {X : Cx} {k i : Nat} {x : Str} {p pos : Pos} {e : Expr} {es : List Expr} {t : TA} (hr : Room k X.A) (hN : X.N[i]? = some x) (hv : Vis X.env.scope x) (ha : PA X (e :: es) t)
    (hdb : (x == ("__debug__" : Str)) = false := by decide) (hcd : (x == ("__classdict__" : Str)) = false := by decide)
    (he : starEach (e :: es) X.env = (false, eval e X.env) :: starEach es X.env := by rfl) (hpl : (backTo pos (starEach es X.env)).any (·.1) = false := by rfl) :
    PE X (.Call (.Name x p) (e :: es) [] pos) (tCallO X.prog X.w X.K X.mg X.base k i t) := by
  refine ⟨fun pins s σ H Q I h => ?_⟩
  obtain ⟨f, sp, hs, hO, ht⟩ := h
  rcases hO with hK | ⟨l, N, hl, hL, hk⟩
  · obtain ⟨fd, ps, F, hk, hb⟩ := hK.ex
    refine wpAny_Call_Name_kw (thn ((pe_var (pos := p) hN hv hdb hcd).run pins s σ H (fun v H1 => v = .ref f ∧ H1 = H) I ⟨.ref f, hs, rfl, rfl⟩) fun u s1 ⟨v, H1, I1, r1, q1⟩ => ?_)
    obtain ⟨rfl, rfl⟩ := q1
    cases r1
    refine PySem.W.callWith_K (h₀ := X.base) I.ok.mod.kin hk (thn (ha.run pos pins s1 σ _ _ I1 ht) fun us s2 ⟨vs, H2, I2, r, q⟩ => ⟨I2.kIn, ?_⟩) he hpl
    have q2 : sp (vs ++ []) H2 Q E0 := by
      rw [List.append_nil]
      exact q.2
    exact run_fn F hr hb .nil (fun _ _ _ _ _ _ _ z => z.elim) I2 r q2
  · obtain ⟨j, rfl⟩ : ∃ j, k = j + 1 := ⟨k - 1, by omega⟩
    refine wpAny_Call_Name_kw (thn ((pe_var (pos := p) hN hv hdb hcd).run pins s σ H (fun v H1 => v = .ref f ∧ H1 = H) I ⟨.ref f, hs, rfl, rfl⟩) fun u s1 ⟨v, H1, I1, r1, q1⟩ => ?_)
    obtain ⟨rfl, rfl⟩ := q1
    cases r1
    have fnA : ∀ {Hx : Hp} {sx : Shared}, LamAt Hx f l → Inv X pins σ Hx sx → PySem.W.FnAt f sx.heap := fun {Hx sx} z J => by
      obtain ⟨c, h1, _⟩ := z
      obtain ⟨⟨pm, ctv, of⟩, _, _⟩ := J.hok f _ h1
      exact ⟨_, _, _, _, of⟩
    refine PySem.W.callWith_F (fnA hl I1) (thn (ha.run pos pins s1 σ _ _ I1 ht) fun us s2 ⟨vs, H2, I2, r, q⟩ => ⟨fnA (hl.ext q.1) I2, ?_⟩) he hpl
    refine wpAny_call (codeAny_mono (run_lam hL (hl.ext q.1) hr I2.env0 r q.2) fun r' s3 hq => ?_)
    cases r' with
    | error e => exact hq.elim
    | ok fl =>
      cases fl with
      | ret u => exact I2.after hq
      | next => exact False.elim hq
      | brk => exact False.elim hq
      | cont => exact False.elim hq
theorem pe_callOK {X : Cx} {P : Program} {w : World} {K : PySem.W.Frag} {mg : Str → Option Value} {base : Heap} {k i : Nat} {x : Str} {p pos : Pos} {e : Expr} {es : List Expr} {t : TA} (hr : Room k X.A) (hN : X.N[i]? = some x) (hv : Vis X.env.scope x) (ha : PA X (e :: es) t)
    (h1 : X.prog = P := by rfl) (h2 : X.w = w := by rfl) (h3 : X.K = K := by rfl) (h4 : X.mg = mg := by rfl) (h5 : X.base = base := by rfl)
    (hdb : (x == ("__debug__" : Str)) = false := by decide) (hcd : (x == ("__classdict__" : Str)) = false := by decide)
    (he : starEach (e :: es) X.env = (false, eval e X.env) :: starEach es X.env := by rfl) (hpl : (backTo pos (starEach es X.env)).any (·.1) = false := by rfl) :
    PE X (.Call (.Name x p) (e :: es) [] pos) (tCallO P w K mg base k i t) := by
  subst h1 h2 h3 h4 h5
  exact pe_callO hr hN hv ha hdb hcd he hpl
/-- a def whose code object is known -/
theorem fn_cd {P : Program} {w : World} {K : PySem.W.Frag} {mg : Str → Option Value} {base : Heap} {x qual : Str} {st : Stmt} {f : Addr} {N ps : List Str} {k : Nat} {sp : Sp} {oc kV doc pm cdv ct : Value} {od an : Option Addr} {osl : Array (Option Value)}
    (lk : K.lookup f = some ⟨oc, od, .func (PySem.W.fnOf x qual (defArgs st) (defBody st) (defScope st) .none kV doc pm an cdv ct), osl⟩) (hcd : PySem.W.codeIn K cdv qual = true) (S : FnScope N ps (defScope st)) (len : ∀ vs H Q E, sp vs H Q E → vs.length = ps.length)
    (hb : ∀ (A : Around) (outer : List Env) (s : Shared) (H : Hp) (vs : List V) (Q : VK) (E : XK), Room k (A.deeper (envOfC qual (defScope st) s.heap.objs.size f cdv)) → sp vs H Q E →
      ∃ t, PSs (cxOf CX0 P w K mg base N qual (defScope st) f cdv A outer s H E).nox (defBody st) t ∧ t { nx := fun _ H' => Q .non H', rt := Q } (start N vs) H) :
    FnOk P w K mg base CX0 (k + 1) f (PySem.W.fnOf x qual (defArgs st) (defBody st) (defScope st) .none kV doc pm an cdv ct) ps sp := by
  refine fn_of lk hcd S len fun A outer s H vs Q E hr hsp => ?_
  obtain ⟨t, h, q⟩ := hb A outer s H vs Q E hr hsp
  exact ⟨t, h.nox, q⟩
theorem tabs_but {T : List (Addr × Str)} {H H' : Hp} {p : Addr} {kvs : List (Key × V)} (hp : H p = some (.dK kvs)) (e : But p H H') (t : Tabs T H) : Tabs T H' := fun x hx => by
  obtain ⟨ps, h1, h2, h3⟩ := t x hx
  refine ⟨ps, e.1 _ _ h1 (ne_of h1 hp (by intro z; cases z)), h2, fun pos cv hc => ?_⟩
  obtain ⟨c, e1, e2⟩ := h3 pos cv hc
  refine ⟨c, e1, e.1 _ _ e2 (ne_of e2 hp ?_)⟩
  intro z
  unfold CodeO at z
  cases z
end Fp

/-! trees of letters -/
namespace Fp
open PySem PySem.Spec PyProof.Rows L2
inductive Tr where
  | leaf (n : Int)
  | node (l r : Tr)
def Tr.dat : Tr → PyData
  | .leaf n => .int n
  | .node l r => .tuple [l.dat, r.dat]
def Tr.post : Tr → List (Option Int)
  | .leaf n => [some n]
  | .node l r => l.post ++ r.post ++ [none]
def Tr.lets : Tr → List Int
  | .leaf n => [n]
  | .node l r => l.lets ++ r.lets
/-- nodes of both sorts, brackets twice -/
def Tr.sz : Tr → Nat
  | .leaf _ => 1
  | .node l r => l.sz + r.sz + 2
def oD : Option Int → PyData
  | none => .none
  | some n => .int n
theorem Tr.lay : ∀ t : Tr, t.dat.canLay0 = true
  | .leaf _ => rfl
  | .node l r => by
    show (l.dat.canLay0 && (r.dat.canLay0 && true)) = true
    rw [l.lay, r.lay]
    rfl
theorem Tr.post_len : ∀ t : Tr, t.post.length ≤ t.sz
  | .leaf _ => Nat.le_refl _
  | .node l r => by
    have h1 := l.post_len
    have h2 := r.post_len
    show (l.post ++ r.post ++ [none]).length ≤ l.sz + r.sz + 2
    rw [List.length_append, List.length_append, List.length_singleton]
    omega
theorem Tr.sz_lets : ∀ t : Tr, t.sz + 2 = 3 * t.lets.length
  | .leaf _ => rfl
  | .node l r => by
    have h1 := l.sz_lets
    have h2 := r.sz_lets
    show l.sz + r.sz + 2 + 2 = 3 * (l.lets ++ r.lets).length
    rw [List.length_append]
    omega
theorem Tr.post_lets : ∀ t : Tr, t.post.filterMap id = t.lets
  | .leaf _ => rfl
  | .node l r => by
    show (l.post ++ r.post ++ [none]).filterMap id = l.lets ++ r.lets
    rw [List.filterMap_append, List.filterMap_append, l.post_lets, r.post_lets]
    exact List.append_nil _
theorem post_filter : ∀ xs : List (Option Int), (xs.filter fun x => x.isSome).map oD = (xs.filterMap id).map PyData.int
  | [] => rfl
  | none :: xs => post_filter xs
  | some n :: xs => congrArg (PyData.int n :: ·) (post_filter xs)
theorem Tr.post_mem {t : Tr} {n : Int} (h : some n ∈ t.post) : n ∈ t.lets := by
  rw [← t.post_lets]
  exact List.mem_filterMap.mpr ⟨_, h, rfl⟩
theorem Tr.lets_pos : ∀ t : Tr, 0 < t.lets.length
  | .leaf _ => Nat.one_pos
  | .node l r => by
    show 0 < (l.lets ++ r.lets).length
    rw [List.length_append]
    exact Nat.lt_of_lt_of_le l.lets_pos (Nat.le_add_right _ _)
/-! ### what waits -/
def wD : Option Tr → PyData
  | none => .none
  | some t => t.dat
def wPost : Option Tr → List (Option Int)
  | none => [none]
  | some t => t.post
def wSz : Option Tr → Nat
  | none => 1
  | some t => t.sz
def oV : Option Int → V
  | none => .non
  | some n => .int n
theorem dts_o {H : Hp} : ∀ xs : List (Option Int), Dts H (xs.map oV) (xs.map oD)
  | [] => .nil
  | none :: xs => .cons .non (dts_o xs)
  | some n :: xs => .cons (.int n) (dts_o xs)
theorem dts_split {H : Hp} : ∀ {ds es : List PyData} {vs : List V}, Dts H vs (ds ++ es) → ∃ a b, vs = a ++ b ∧ Dts H a ds ∧ Dts H b es
  | [], _, vs, h => ⟨[], vs, rfl, .nil, h⟩
  | _ :: ds, es, _, .cons h t => by
    obtain ⟨a, b, e, h1, h2⟩ := dts_split (ds := ds) t
    exact ⟨_ :: a, b, by rw [e]; rfl, .cons h h1, h2⟩
theorem Dts.one {H : Hp} {d : PyData} {vs : List V} (h : Dts H vs [d]) : ∃ v, vs = [v] ∧ Dt H v d := by
  cases h with
  | cons a b =>
    cases b
    exact ⟨_, rfl, a⟩
theorem snoc_cases {α : Type} (l : List α) : l = [] ∨ ∃ a x, l = a ++ [x] := by
  rcases List.eq_nil_or_concat l with h | ⟨a, x, h⟩
  · exact .inl h
  · exact .inr ⟨a, x, by rw [h, List.concat_eq_append]⟩
def wSum (ws : List (Option Tr)) : Nat := (ws.map wSz).sum
theorem wSum_app (a b : List (Option Tr)) : wSum (a ++ b) = wSum a + wSum b := by
  unfold wSum
  rw [List.map_append, List.sum_append]
theorem wD_post (ws : List (Option Tr)) (x : Option Tr) : (ws ++ [x]).reverse.flatMap wPost = wPost x ++ ws.reverse.flatMap wPost := by
  rw [List.reverse_append]
  rfl
def tSum (ws : List Tr) : Nat := (ws.map Tr.sz).sum
theorem tSum_app (a b : List Tr) : tSum (a ++ b) = tSum a + tSum b := by
  unfold tSum
  rw [List.map_append, List.sum_append]
theorem tSum_len : ∀ l : List Tr, l.length ≤ tSum l
  | [] => Nat.le_refl _
  | t :: l => by
    have h := tSum_len l
    have h2 : 1 ≤ t.sz := by cases t <;> exact Nat.succ_le_succ (Nat.zero_le _)
    show l.length + 1 ≤ t.sz + tSum l
    omega
theorem lay_trees : ∀ ws : List Tr, PyData.canLayAll0 (ws.map Tr.dat) = true
  | [] => rfl
  | t :: ws => by
    show (t.dat.canLay0 && PyData.canLayAll0 (ws.map Tr.dat)) = true
    rw [t.lay, lay_trees ws]
    rfl
theorem snoc_lets (ws : List Tr) (x : Tr) : (ws ++ [x]).reverse.flatMap Tr.lets = x.lets ++ ws.reverse.flatMap Tr.lets := by
  rw [List.reverse_append]
  rfl
theorem split2 {α : Type} : ∀ (l : List α) (i : Nat), i + 1 < l.length → ∃ a x y b, l = a ++ x :: y :: b ∧ a.length = i
  | [], _, h => absurd h (Nat.not_lt_zero _)
  | [_], i, h => absurd h (by simp)
  | x :: y :: b, 0, _ => ⟨[], x, y, b, rfl, rfl⟩
  | z :: l, i + 1, h => by
    obtain ⟨a, x, y, b, e, ea⟩ := split2 l i (Nat.lt_of_succ_lt_succ h)
    exact ⟨z :: a, x, y, b, by rw [e]; rfl, by rw [← ea]; rfl⟩
theorem cut_from (xs : List V) (k : Nat) : cutV xs (some (k : Int)) none = xs.drop k := by
  unfold cutV
  rw [HT.sIx_none, show HT.sIx xs.length 0 (some (k : Int)) = min k xs.length from HT.sIx_nat _ _ k]
  rcases Nat.le_total k xs.length with h | h
  · rw [Nat.min_eq_left h, List.take_of_length_le (by rw [List.length_drop]; exact Nat.le_refl _)]
  · rw [Nat.min_eq_right h, List.drop_of_length_le h, List.drop_of_length_le (Nat.le_refl _)]
    exact List.take_nil
theorem dts_cons {H : Hp} {d : PyData} {ds : List PyData} {vs : List V} (h : Dts H vs (d :: ds)) : ∃ v ws, vs = v :: ws ∧ Dt H v d ∧ Dts H ws ds := by
  cases h with
  | cons a b => exact ⟨_, _, rfl, a, b⟩
theorem cut_last (xs : List V) (x : V) : cutV (xs ++ [x]) none (some (-1)) = xs := by
  unfold cutV
  have e : HT.sIx (xs ++ [x]).length (xs ++ [x]).length (some (-1)) = xs.length := by
    show (if (-1 : Int) < 0 then ((-1 : Int) + ((xs ++ [x]).length : Int)).toNat else min (-1 : Int).toNat (xs ++ [x]).length) = _
    rw [if_pos (by decide), List.length_append, List.length_singleton]
    omega
  rw [HT.sIx_none, e]
  show List.take (xs.length - 0) (xs ++ [x]) = xs
  rw [Nat.sub_zero]
  exact List.take_left
/-! ### put together again -/
def reb : List (Option Int) → List Tr → Option (List Tr)
  | [], s => some s
  | some n :: xs, s => reb xs (.leaf n :: s)
  | none :: xs, r :: l :: s => reb xs (.node l r :: s)
  | none :: _, _ => none
theorem reb_post : ∀ (t : Tr) (xs : List (Option Int)) (s : List Tr), reb (t.post ++ xs) s = reb xs (t :: s)
  | .leaf _, _, _ => rfl
  | .node l r, xs, s => by
    show reb (l.post ++ r.post ++ [none] ++ xs) s = _
    rw [List.append_assoc, List.append_assoc, reb_post l, reb_post r]
    rfl
def lvs (s : List Tr) : Nat := (s.map fun t => t.lets.length).sum
theorem reb_lvs : ∀ (xs : List (Option Int)) (s s' : List Tr), reb xs s = some s' → lvs s ≤ lvs s'
  | [], s, s', h => by
    cases h
    exact Nat.le_refl _
  | some n :: xs, s, s', h => by
    have := reb_lvs xs (.leaf n :: s) s' h
    have e : lvs (.leaf n :: s) = 1 + lvs s := rfl
    omega
  | none :: xs, [], s', h => nomatch h
  | none :: xs, [_], s', h => nomatch h
  | none :: xs, r :: l :: s, s', h => by
    have := reb_lvs xs (.node l r :: s) s' h
    have e : lvs (.node l r :: s) = (l.lets ++ r.lets).length + lvs s := rfl
    have e2 : lvs (r :: l :: s) = r.lets.length + (l.lets.length + lvs s) := rfl
    rw [List.length_append] at e
    omega
/-! ### behind a lambda's making -/
mutual
theorem Dt.ext {H H' : Hp} (e : LamX.ExtN H H') : ∀ {d : PyData} {v : V}, Dt H v d → Dt H' v d
  | .none, _, .non => .non
  | .bool _, _, .bl b => .bl b
  | .int _, _, .int i => .int i
  | .str _, _, .str x => .str x
  | .list ds, _, .lst h t => .lst (e _ _ h (by intro ps z; cases z)) (Dts.ext e t)
  | .tuple ds, _, .tup h t => .tup (e _ _ h (by intro ps z; cases z)) (Dts.ext e t)
theorem Dts.ext {H H' : Hp} (e : LamX.ExtN H H') : ∀ {ds : List PyData} {vs : List V}, Dts H vs ds → Dts H' vs ds
  | [], _, .nil => .nil
  | _ :: _, _, .cons h t => .cons (Dt.ext e h) (Dts.ext e t)
end
theorem PenOk.ext {H H' : Hp} {p c : Addr} {t : Nat} (h : PenOk H p c t) (e : LamX.ExtN H H') : PenOk H' p c t := by
  obtain ⟨cells, turn, left, h1, h2, h3⟩ := h.ex
  exact ⟨cells, turn, left, e _ _ h1 (by intro ps z; cases z), e _ _ h2 (by intro ps z; cases z), h3⟩
theorem rng_at {m : Nat} {fv : V → V} {n : Int} (h0 : 0 ≤ n) (h1 : n < (m : Int)) : (((rngV 0 m).filter fun _ => true).map fv)[n.toNat]? = some (fv (.int n)) := by
  rw [List.filter_eq_self.mpr (fun _ _ => rfl), List.getElem?_map, rngV_at (by omega)]
  show some (fv (V.int (0 + (n.toNat : Int)))) = _
  rw [show (0 : Int) + (n.toNat : Int) = n by omega]
theorem rng_mem {m : Nat} {x : V} (h : x ∈ rngV 0 m) : ∃ i : Nat, i < m ∧ x = .int (i : Int) := by
  obtain ⟨i, hi, e⟩ := List.mem_map.mp h
  exact ⟨i, List.mem_range.mp hi, by rw [← e, Int.zero_add]⟩
/-! ### texts -/
theorem es_eq : (Str.ofString "") = Str.empty := by decide +kernel
theorem es_app (a : Str) : (Str.ofString "") ++ a = a := by rw [es_eq]; exact Str.empty_append a
theorem app_es (a : Str) : a ++ (Str.ofString "") = a := by rw [es_eq]; exact Str.append_empty a
def Tr.txt : Tr → Str
  | .leaf n => Str.ofString (toString n) ++ "."
  | .node l r => "(" ++ l.txt ++ r.txt ++ ")"
def wT : Option Tr → Str
  | none => ")"
  | some t => t.txt
def wTs : List (Option Tr) → Str
  | [] => ""
  | x :: xs => wT x ++ wTs xs
def wDs : Option Tr → PyData
  | none => .str ")"
  | some t => t.dat
theorem lay_ws : ∀ ws : List (Option Tr), PyData.canLayAll0 (ws.map wDs) = true
  | [] => rfl
  | none :: ws => by
    have h : (PyData.str ")").canLay0 = true := by decide +kernel
    show ((PyData.str ")").canLay0 && PyData.canLayAll0 (ws.map wDs)) = true
    rw [h, lay_ws ws]
    rfl
  | some t :: ws => by
    show (t.dat.canLay0 && PyData.canLayAll0 (ws.map wDs)) = true
    rw [t.lay, lay_ws ws]
    rfl
theorem num_len {n : Int} (h0 : 0 ≤ n) (h1 : n < 100) : (Str.ofString (toString n)).length ≤ 2 := by
  obtain ⟨m, rfl⟩ : ∃ m : Nat, n = m := ⟨n.toNat, by omega⟩
  rw [TL.len_tl, TL.tl_num]
  exact TL.numL_len (by decide) (by omega)
theorem num_log {n : Int} (h0 : 0 ≤ n) (h1 : n < 100) : n.natAbs.log2 < 1920 := by
  have h := Nat.log2_le_self n.natAbs
  omega
theorem Tr.txt_len : ∀ t : Tr, (∀ n ∈ t.lets, 0 ≤ n ∧ n < 100) → t.txt.length + 2 ≤ 8 * t.lets.length
  | .leaf n, h => by
    obtain ⟨h0, h1⟩ := h n (List.mem_singleton.mpr rfl)
    have := num_len h0 h1
    show (Str.ofString (toString n) ++ ".").length + 2 ≤ 8 * 1
    rw [Str.length_append]
    have e : ("." : Str).length = 1 := rfl
    omega
  | .node l r, h => by
    have h1 := l.txt_len fun n hn => h n (List.mem_append_left _ hn)
    have h2 := r.txt_len fun n hn => h n (List.mem_append_right _ hn)
    show ("(" ++ l.txt ++ r.txt ++ ")").length + 2 ≤ 8 * (l.lets ++ r.lets).length
    rw [Str.length_append, Str.length_append, Str.length_append, List.length_append]
    have e1 : ("(" : Str).length = 1 := rfl
    have e2 : (")" : Str).length = 1 := rfl
    omega
def spText : Sp := fun vs H Q _ => ∃ v t, vs = [v] ∧ Dt H v t.dat ∧ Tr.sz t ≤ 10000 ∧ (∀ n ∈ t.lets, 0 ≤ n ∧ n < 100) ∧ ∀ H', Same H H' → Q (.str t.txt) H'
def rStr (n : Nat) (x : V) : Prop := ∃ z, x = .str z ∧ z.length + 2 ≤ 8 * n
def gJoin : V → V → V
  | .str a, .str b => .str ("(" ++ a ++ b ++ ")")
  | _, _ => .non
theorem gJoin_ok (n m : Nat) (x y : V) (h1 : rStr n x) (h2 : rStr m y) : rStr (n + m) (gJoin x y) := by
  obtain ⟨a, rfl, ha⟩ := h1
  obtain ⟨b, rfl, hb⟩ := h2
  refine ⟨_, rfl, ?_⟩
  rw [Str.length_append, Str.length_append, Str.length_append]
  have e1 : ("(" : Str).length = 1 := rfl
  have e2 : (")" : Str).length = 1 := rfl
  omega
/-! ### values -/
def Tr.ev (vals : List V) (g : V → V → V) : Tr → V
  | .leaf n => vals.getD n.toNat .non
  | .node l r => g (l.ev vals g) (r.ev vals g)
/-- an operation on values that are no objects; R n: a value of n letters -/
def spOpn (N : Nat) (R : Nat → V → Prop) (g : V → V → V) : Sp := fun vs H Q _ => ∃ x y n m, vs = [x, y] ∧ R n x ∧ R m y ∧ n + m ≤ N ∧ ∀ H', Same H H' → Q (g x y) H'
def spTurn : Sp := fun vs H Q _ => ∃ v t, vs = [v] ∧ Dt H v t.dat ∧ Tr.sz t ≤ 10000 ∧ ∀ a H', H a = none → Same H H' → Dt H' (.ref a) (.list (t.post.map oD)) → Q (.ref a) H'
def spLets : Sp := fun vs H Q _ => ∃ v t, vs = [v] ∧ Dt H v t.dat ∧ Tr.sz t ≤ 10000 ∧ ∀ a H', H a = none → Same H H' → Dt H' (.ref a) (.list (t.lets.map PyData.int)) → Q (.ref a) H'
def spVal (P : Program) (w : World) (K : PySem.W.Frag) (mg : Str → Option Value) (base : Heap) (k : Nat) : Sp := fun vs H Q _ => ∃ v a f t vals g R N, vs = [v, .ref a, .ref f] ∧ Dt H v t.dat ∧ Tr.sz t ≤ 10000 ∧ H a = some (.lst vals) ∧ OpAt P w K mg base k f (spOpn N R g) H ∧
  (∀ n m x y, R n x → R m y → R (n + m) (g x y)) ∧ (∀ n ∈ t.lets, 0 ≤ n ∧ ∃ x, vals[n.toNat]? = some x ∧ R 1 x) ∧ t.lets.length ≤ N ∧ ∀ H', Same H H' → Q (t.ev vals g) H'
def spPick : Sp := fun vs H Q _ => ∃ p c o t ds, vs = [.ref p, o] ∧ PenOk H p c t ∧ t ≤ 900000000 ∧ Dt H o (.list ds) ∧ 0 < ds.length ∧ ds.length ≤ 900 ∧ ∀ v H' d, d ∈ ds → Dt H' v d → PenOk H' p c (t + 1) → But p H H' → Q v H'
theorem ev_txt {vals : List V} : ∀ t : Tr, (∀ n ∈ t.lets, vals[n.toNat]? = some (.str (Str.ofString (toString n) ++ "."))) → t.ev vals gJoin = .str t.txt
  | .leaf n, h => by
    show vals.getD n.toNat .non = _
    rw [List.getD_eq_getElem?_getD, h n (List.mem_singleton.mpr rfl)]
    rfl
  | .node l r, h => by
    show gJoin (l.ev vals gJoin) (r.ev vals gJoin) = _
    rw [ev_txt l fun n hn => h n (List.mem_append_left _ hn), ev_txt r fun n hn => h n (List.mem_append_right _ hn)]
    rfl
/-! sums, the first letter -/
def rInt (_ : Nat) (x : V) : Prop := ∃ i, x = .int i
def gAdd : V → V → V
  | .int a, .int b => .int (a + b)
  | _, _ => .non
def gFst : V → V → V := fun x _ => x
theorem ev_sum {vals : List V} (nm : Int → Int) : ∀ t : Tr, (∀ n ∈ t.lets, vals[n.toNat]? = some (.int (nm n))) → t.ev vals gAdd = .int (t.lets.map nm).sum
  | .leaf n, h => by
    show vals.getD n.toNat .non = .int (nm n + 0)
    rw [List.getD_eq_getElem?_getD, h n (List.mem_singleton.mpr rfl), Int.add_zero]
    rfl
  | .node l r, h => by
    show gAdd (l.ev vals gAdd) (r.ev vals gAdd) = .int ((l.lets ++ r.lets).map nm).sum
    rw [ev_sum nm l fun n hn => h n (List.mem_append_left _ hn), ev_sum nm r fun n hn => h n (List.mem_append_right _ hn), List.map_append, List.sum_append_int]
    rfl
theorem ev_fst {vals : List V} : ∀ t : Tr, ∃ n, t.lets[0]? = some n ∧ t.ev vals gFst = vals.getD n.toNat .non
  | .leaf n => ⟨n, rfl, rfl⟩
  | .node l r => by
    obtain ⟨n, h1, h2⟩ := ev_fst (vals := vals) l
    refine ⟨n, ?_, h2⟩
    show (l.lets ++ r.lets)[0]? = some n
    rw [List.getElem?_append_left l.lets_pos]
    exact h1
/-- bracketed at drawn places -/
def spBrk : Sp := fun vs H Q _ => ∃ p c v t ns, vs = [.ref p, v] ∧ PenOk H p c t ∧ t ≤ 800000000 ∧ Dt H v (.list (ns.map PyData.int)) ∧ 0 < ns.length ∧ ns.length ≤ 300 ∧
  ∀ (v' : V) (H' : Hp) (b : Tr), b.lets = ns → Dt H' v' b.dat → PenOk H' p c (t + ns.length) → But p H H' → Q v' H'
def spComb : Sp := fun vs H Q _ => ∃ (v : V) (way : Int) (ns : List Int), vs = [v, .int way] ∧ Dt H v (.list (ns.map PyData.int)) ∧ 0 < ns.length ∧ ns.length ≤ 1000 ∧ ∀ (v' : V) (H' : Hp) (b : Tr), b.lets = ns → Same H H' → Dt H' v' b.dat → Q v' H'
end Fp

/-! a text times 0, 1 or 2 -/
namespace Fp
open PySem PySem.Spec PyProof.Rows L2
/-- no sign of the text is past the last one -/
def OkS (w : Str) : Prop := (PyData.str w).canLay0 = true
instance (w : Str) : Decidable (OkS w) := inferInstanceAs (Decidable ((PyData.str w).canLay0 = true))
theorem okS_iff {w : Str} : OkS w ↔ ∀ c ∈ w.cps.toList, c < 1114112 := by
  have e : (PyData.str w).canLay0 = w.cps.all fun c => decide (c < 1114112) := by
    unfold PyData.canLay0
    rfl
  unfold OkS
  rw [e, ← Array.all_toList, List.all_eq_true]
  exact ⟨fun h c hc => of_decide_eq_true (h c hc), fun h c hc => decide_eq_true (h c hc)⟩
theorem okS_app {a b : Str} (ha : OkS a) (hb : OkS b) : OkS (a ++ b) := okS_iff.mpr fun c hc => by
  have e : (a ++ b).cps.toList = a.cps.toList ++ b.cps.toList := by
    show (a.cps ++ b.cps).toList = _
    rw [Array.toList_append]
  rw [e] at hc
  rcases List.mem_append.mp hc with h | h
  · exact okS_iff.mp ha c h
  · exact okS_iff.mp hb c h
theorem okS_one {c : Nat} (h : c < 1114112) : OkS ⟨#[c]⟩ := okS_iff.mpr fun x hx => by
  have : x = c := by simpa using hx
  omega
theorem okS_at {z : Str} (h : OkS z) {j : Nat} {c : Nat} (hj : z.cps.toList[j]? = some c) : OkS ⟨#[c]⟩ := okS_one (okS_iff.mp h c (List.mem_of_getElem? hj))
section
variable {X : Cx}
/-- which text it is, is not told, but that it is short -/
def rMulS : R2 := fun x y H Q => ∃ z n, x = .str z ∧ y = .int n ∧ 0 ≤ n ∧ n < 3 ∧ z.length ≤ 100 ∧ OkS z ∧ ∀ r : Str, r.length ≤ 200 → OkS r → Q (.str r) H
theorem op_mulS : OpR X (binaryOp .Mult) rMulS := by
  intro pins s σ H x y v u Q I rx ry h
  obtain ⟨z, n, rfl, rfl, h0, h1, hz, ok, q⟩ := h
  obtain ⟨t, rfl⟩ := rx
  obtain ⟨t', rfl⟩ := ry
  have hn : n = 0 ∨ n = 1 ∨ n = 2 := by omega
  rcases hn with rfl | rfl | rfl
  · exact PySem.P.mul_str_none (by decide) (by decide) ⟨.str _, H, I.tok _, ⟨_, rfl⟩, q _ (by decide) (by decide +kernel)⟩
  · refine PySem.P.mul_str (by decide) (fun _ e => by cases e) (fun _ e => by cases e) ?_
    show (Made.val (.str z t)).post _ s
    exact ⟨.str z, H, I, ⟨_, rfl⟩, q _ (by omega) ok⟩
  · refine PySem.P.mul_str (by decide) (fun _ _ => by omega) (fun _ _ => ?_) ?_
    · unfold Builtin.Str.tooLong
      have : z.length * (2 : Int).toNat ≤ 200 := by
        show z.length * 2 ≤ 200
        omega
      have big : 200 ≤ sizeLine := by decide
      exact decide_eq_false (by omega)
    · by_cases h0 : z.length = 0
      · have e : ((2 : Int) == 1 || z.length == 0) = true := by rw [h0]; rfl
        rw [if_neg (by decide), if_pos e]
        exact ⟨.str z, H, I, ⟨_, rfl⟩, q _ (by omega) ok⟩
      · have e : ((2 : Int) == 1 || z.length == 0) = false := by
          have : (z.length == 0) = false := by simpa using h0
          rw [this]
          rfl
        rw [if_neg (by decide), e, if_neg (by decide)]
        have l2 : (((#[] : Array Nat) ++ z.cps) ++ z.cps).size ≤ 200 := by
          have : z.cps.size = z.length := rfl
          rw [Array.size_append, Array.size_append]
          show 0 + z.cps.size + z.cps.size ≤ 200
          omega
        have l3 : OkS ⟨((#[] : Array Nat) ++ z.cps) ++ z.cps⟩ := okS_iff.mpr fun c hc => by
          have : c ∈ z.cps.toList := by
            have h : c ∈ (((#[] : Array Nat) ++ z.cps) ++ z.cps).toList := hc
            rw [Array.toList_append, Array.toList_append] at h
            rcases List.mem_append.mp h with h | h
            · rcases List.mem_append.mp h with h | h
              · exact absurd h (by simp)
              · exact h
            · exact h
          exact okS_iff.mp ok c this
        exact ⟨Nat.le_trans l2 (by decide), ⟨.str _, H, I.tok _, ⟨_, rfl⟩, q _ l2 l3⟩⟩
end
end Fp

/-! try with several clauses that name what they catch -/
namespace Fp
open PySem PySem.Spec PyProof.Rows L2
/-- a clause: its class, the slot of its name, its suite -/
abbrev Cl1 := Value × Nat × (Addr → Value → Option Addr → TS)
def endsBut (i : Nat) (D : Ends) : Ends :=
  { nx := fun σ H => D.nx (σ.set i none) H
    rt := D.rt
    bk := fun σ H => D.bk (σ.set i none) H
    ct := fun σ H => D.ct (σ.set i none) H }
def wCls (K : PySem.W.Frag) (Wout : WX) (D : Ends) : List Cl1 → WX
  | [] => Wout
  | (c, i, ts) :: r => fun cls d σ H => ∃ b, PySem.W.exmOne K cls c = some b ∧
      (b = true → ∀ a, H a = none → ts a cls d (endsBut i D) (σ.set i (some (.ref a))) H) ∧ (b = false → wCls K Wout D r cls d σ H)
inductive ClsOk (X : Cx) : List ExceptHandler → List Cl1 → Prop
  | nil : ClsOk X [] []
  | cons {x n : Str} {c : Value} {i : Nat} {ts : Addr → Value → Option Addr → TS} {b0 : Stmt} {su : List Stmt} {p1 p2 : Pos} {hds : List ExceptHandler} {l : List Cl1}
      (hi : X.N[i]? = some n) (hl : X.env.kindOf n = some .local) (hc : Names X x c)
      (hsu : ∀ (a : Addr) (oe : Obj) (cls : Value) (d : Option Addr) (pn : List (Addr × Obj)), Zc cls d oe → (∃ vs, oe.data = .fields vs) → PSs (X.suite a ((a, oe) :: pn)) (b0 :: su) (ts a cls d))
      (r : ClsOk X hds l) : ClsOk X (.ExceptHandler (some (.Name x p1)) (some n) (b0 :: su) p2 :: hds) ((c, i, ts) :: l)
section
variable {X : Cx} {body : List Stmt} {h0 : ExceptHandler} {hds : List ExceptHandler} {l : List Cl1} {pos : Pos} {tb : WX → TS} {Wout : WX}
theorem ps_try_cl (hs : X.stack = X.env :: X.outer) (hf : X.env.frame = some X.env.locals) (hN : X.N.Nodup) (tk : Takes X Wout)
    (hb : ∀ (W : WX) (pn : List (Addr × Obj)) (xe : Value → Shared → Prop), Takes (X.tr pn xe) W → PassesOwn (model X.prog X.w) X.A X.env xe → PSs (X.tr pn xe) body (tb W))
    (hh : ClsOk X (h0 :: hds) l) : PS X (.Try body (h0 :: hds) [] [] pos) (fun D σ H => tb (wCls X.K Wout D l) D σ H) := by
  refine ⟨fun pins s σ H D I h => ?_⟩
  have okX := I.ok
  have frX : X.A.frames = some (X.env :: X.outer) := by
    rw [okX.frames, hs]
  refine wpAny_Try_except ?_
  refine wpAny_mono ((hb (wCls X.K Wout D l) (X.pn ++ pins) (fun e s1 =>
      wpAny (model X.prog X.w) X.A (noteFrame e X.env) (fun _ s2 =>
        wpAny (model X.prog X.w) X.A (setFlight e none) (fun _ s3 =>
          wpAny (model X.prog X.w) X.A (handleBy e X.env (h0 :: hds)) (SP X pins D) X.xe s3) X.xe s2) X.xe s1)
      (fun u sx inAir => ?_) PassesOwn.looking).run [] s σ H D (I.toTry _) h) (fun f s1 hsp => ?_) (fun e s1 he => he)
  · obtain ⟨a, B, sJ, pinsA, σA, HA, cls, d, rfl, JA, nbA, upA, skyA, naA, osA, agA, wA⟩ := inAir
    have J : Inv X pins σA HA sJ := JA.ofTry okX
    have sky2 : Sky B (X.env :: X.outer) a (Zc cls d) X.env.locals sx.heap := by
      rw [← hs]
      exact skyA
    show wpAny (model X.prog X.w) X.A (noteFrame (.ref a) X.env) _ _ _
    refine Sky.land Zc.steady frX hf sky2 fun hp fl up => ?_
    have JL : Inv X pins σA HA { sx with heap := hp } := J.landed nbA fl.1 (upA.trans up) osA agA
    obtain ⟨oe, fv, hoe, hzc, hdt⟩ := fl.there
    have noFrame : ∀ {hq : Heap} {o : Obj} {vq : Array Value}, hq.FunFrames B (X.env :: X.outer) → hq.get? a = some o → o.data = .fields vq → a ∉ frs (X.env :: X.outer) := fun {hq o vq} ff e dd hm => by
      obtain ⟨_, o2, e2, hnf⟩ := ff.mem hm
      rw [e] at e2
      cases e2
      exact hnf _ dd
    have nfr := noFrame fl.2.2.1 hoe hdt
    have nLoc : a ≠ X.env.locals := fun z => nfr (List.mem_filterMap.mpr ⟨X.env, List.mem_cons_self, by rw [hf, z]⟩)
    have nFs : a ∉ X.fs := fun hm => by
      obtain ⟨e, he, q⟩ := List.mem_filterMap.mp hm
      exact nfr (List.mem_filterMap.mpr ⟨e, List.mem_cons_of_mem _ he, q⟩)
    have SL := JL.suite hoe hdt naA nLoc nFs
    have go : ∀ {hs2 : List ExceptHandler} {l2 : List Cl1}, ClsOk X hs2 l2 → wCls X.K Wout D l2 cls d σA HA →
        wpAny (model X.prog X.w) X.A (handleBy (.ref a) X.env hs2) (SP X pins D) X.xe { sx with heap := hp } := by
      intro hs2 l2 hk
      induction hk with
      | nil =>
        intro w
        refine wpAny_handleBy_nil ?_
        obtain ⟨k1, k2, k3, oe2, vs2, T, oT, ts2, he2, hz2, hd2, hv1, hr2⟩ := id fl
        unfold PySem.passOn
        refine wpAny_bind (wpAny_field he2 hd2 hv1 ?_)
        rw [if_neg (show ¬ ((Value.ref T == Value.none) = true) by simp)]
        have fin : wpAny (model X.prog X.w) X.A (setFlight (.ref a) X.env.frame) (fun _ s4 =>
            wpAny (model X.prog X.w) X.A (throw (.ref a) : Sem Flow) (SP X pins D) X.xe s4) X.xe { sx with heap := hp } := by
          rw [hf]
          refine HandSPX.setFlight_upZ fl fun h4 hh4 up4 => wpAny_throw (tk _ _ ?_)
          refine ⟨a, B, sJ, pins, σA, HA, cls, d, rfl, J, nbA, (upA.trans up).trans up4, .inr (.inr ?_), naA, osA, agA, w⟩
          rw [hs]
          exact hh4
        first
          | exact wpAny_bind (wpAny_pure (wpAny_bind fin))
          | exact wpAny_bind fin
      | @cons x n c i ts b0 su p1 p2 hds2 l2 hi hl hc hsu r ih =>
        intro w
        obtain ⟨b, hb1, hyes, hno⟩ := w
        have hloc : Loc X.env.scope n := .inl hl
        refine wpAny_handleBy_cons (codeAny_handlers_test ?_) (by intro q; cases q)
        have LT : PySem.W.Looks (model X.prog X.w) hp (typeOf (.ref a)) cls := fun A2 Q2 E2 s2 k q =>
          wpAny_typeOf_ref (k _ _ hoe) (by rw [hzc.1]; exact q)
        have LM := PySem.W.exm_one (M := model X.prog X.w) JL.kIn LT hb1
        have test : ∀ {Q2 E2 : Value → Shared → Prop}, Q2 c { sx with heap := hp } →
            wpAny (model X.prog X.w) (X.A.mark (some (.ref a))) (eval (.Name x p1) X.env) Q2 E2 { sx with heap := hp } := fun {Q2 E2} q => by
          obtain ⟨g1, g2, g3 | ⟨g3, g4, g5⟩⟩ := hc
          · exact ld_glob (X := X.suite a ((a, oe) :: (X.pn ++ pins))) SL g1 g3 q g2
          · exact ld_blt (X := X.suite a ((a, oe) :: (X.pn ++ pins))) SL g1 g3 g4 q g5 g2
        refine test (LM.here ?_)
        cases b with
        | true =>
          refine codeAny_handlers_suite_as ?_
          refine HandSPX.lands_againZ fl fun h4 fl4 up4 => ?_
          have J4 : Inv X pins σA HA { sx with heap := h4 } := J.landed nbA fl4.1 ((upA.trans up).trans up4) osA agA
          obtain ⟨oe4, fv4, hoe4, hz4, hd4⟩ := fl4.there
          have S4 := J4.suite hoe4 hd4 naA nLoc nFs
          refine store_ok (X := X.suite a ((a, oe4) :: (X.pn ++ pins))) (v := .ref a) S4 hN hi hloc rfl (fun s5 S5 => ?_) (.inr hl)
          refine wpAny_mono ((hsu a oe4 cls d (X.pn ++ pins) hz4 ⟨_, hd4⟩).run [] s5 _ HA _ S5 (hyes rfl a naA)) (fun f s6 hsp => ?_) (fun _ _ z => False.elim z)
          have close : ∀ {σ6 : L2.St} {H6 : Hp} {Q6 : Shared → Prop}, Inv (X.suite a ((a, oe4) :: (X.pn ++ pins))) [] σ6 H6 s6 →
              (∀ s7, Inv X pins (σ6.set i none) H6 s7 → Q6 s7) →
              wpAny (model X.prog X.w) X.A (do bindName X.env n .none; unbindBehindTheSuite X.env n p2) (fun _ s7 => Q6 s7) X.xe s6 :=
            fun {σ6 H6 Q6} S6 hq => gone_ok (S6.unsuite okX) hN hi hl hq
          cases f with
          | next =>
            obtain ⟨σ6, H6, S6, q6⟩ := hsp
            exact close S6 fun s7 J7 => ⟨_, _, J7, q6⟩
          | brk =>
            obtain ⟨σ6, H6, S6, q6⟩ := hsp
            exact close S6 fun s7 J7 => ⟨_, _, J7, q6⟩
          | cont =>
            obtain ⟨σ6, H6, S6, q6⟩ := hsp
            exact close S6 fun s7 J7 => ⟨_, _, J7, q6⟩
          | ret u =>
            obtain ⟨v6, σ6, H6, S6, r6, q6⟩ := hsp
            exact close S6 fun s7 J7 => ⟨_, _, _, J7, r6, q6⟩
        | false =>
          show wpAny _ X.A (handleBy (.ref a) X.env hds2) _ _ _
          exact ih (hno rfl)
    exact go hh wA
  · cases f with
    | next =>
      obtain ⟨σ2, H2, J2, q⟩ := hsp
      exact wpAny_execs_nil ⟨σ2, H2, J2.ofTry okX, q⟩
    | brk =>
      obtain ⟨σ2, H2, J2, q⟩ := hsp
      exact ⟨σ2, H2, J2.ofTry okX, q⟩
    | cont =>
      obtain ⟨σ2, H2, J2, q⟩ := hsp
      exact ⟨σ2, H2, J2.ofTry okX, q⟩
    | ret u =>
      obtain ⟨v, σ2, H2, J2, r, q⟩ := hsp
      exact ⟨v, σ2, H2, J2.ofTry okX, r, q⟩
end
end Fp
namespace Fp
open PySem PySem.Spec PySem.Calls PyProof.Rows PySem.W
section
variable {prog : Program} {w : World} {A : Around} {E : Value → Shared → Prop} {s : Shared} {K : Frag} {x D : Addr} {ox : Obj} {od : Option Obj}
/-- __class__ of an instance of an own exception class, whatever its dict -/
theorem exc_class {Q : Option Value → Shared → Prop} (C : L2.ExcC K D) (X : K.In s.heap) (I : InstAt s.heap x ox D od) (h : Q (some (.ref D)) { s with toks := s.toks + 1 }) :
    wpAny (model prog w) A (getAttr? (.ref x) "__class__") Q E s := by
  have hcls : (clsIn K D).isSome = true := by
    obtain ⟨cd, hc, _⟩ := any_some C.hd
    rw [hc]
    rfl
  have hf : findObj K D od "__class__" = some (.bind (.builtin "getset_descriptor.__get__") (.builtin "object.__class__")) := by
    cases od with
    | none => exact findObj_dataN hcls C.ha C.hn C.ht
    | some o => exact findObj_data hcls C.ha C.hn C.ht
  obtain ⟨hp, g, d, t, os⟩ := s
  have T0 := I.type (M := model prog w)
  have T1 := looks_findIn (M := model prog w) X C.hg
  have T2 := looks_findIn (M := model prog w) X C.hk
  have T3 := looks_find (M := model prog w) X I hf
  have isB : Looks (model prog w) hp (isInstance (.ref x) (.type "BaseException")) true :=
    T0.andThen (looks_subIn X C.hs)
  have z0 : (false && onTheHeap (Value.builtin "BaseException.__getattribute__")) = false := by rfl
  have z1 : (onTheHeap (Value.ref D) && Value.builtin "BaseException.__getattribute__" ==
      Value.builtin "object.__getattribute__") = false := by
    have : (Value.builtin "BaseException.__getattribute__" ==
      Value.builtin "object.__getattribute__") = false := by decide +kernel
    rw [this]
    rfl
  unfold getAttr? getAttrBy? getAttrBy
  refine wpAny_bind (wpAny_mkText (wpAny_bind (wpAny_attempt (wpAny_holding (wpAny_bind
    (T0.at (wpAny_bind (T1.at ?_))))))))
  show wpAny _ _ (if (onTheHeap (Value.ref D) && Value.builtin "BaseException.__getattribute__" ==
    Value.builtin "object.__getattribute__") = true then _ else _) _ _ _
  rw [z1, if_neg (by decide)]
  unfold getAttrByItsOwn hookBefore
  refine wpAny_bind ?_
  rw [if_pos (show onTheHeap (Value.ref D) = true by rfl)]
  refine T2.at ?_
  refine wpAny_bind (wpAny_attempt (wpAny_holding ?_))
  unfold callGetattribute
  rw [z0, if_neg (by decide)]
  unfold boundAndCalled
  rw [PySem.F.excAttr_ValueError.ga.bind (Value.ref x)]
  refine wpAny_bind (wpAny_pure ?_)
  show wpAny _ _ (call (.builtin "BaseException.__getattribute__")
    [.ref x, .str "__class__" t]) _ _ _
  refine wpAny_call (codeAny_call_builtin PySem.F.excAttr_ValueError.ga.plain
    PySem.F.entry_bexc_ga ?_)
  refine @check_slot (model prog w) _ _ ⟨hp, g, d, t + 1, os⟩ "BaseException.__getattribute__" "BaseException"
    "__getattribute__" (.ref x) [.str "__class__" t] [] _ (by decide +kernel) (by decide +kernel) isB
    (PySem.F.args_bexc_ga (.ref x) (.str "__class__" t)) ?_
  unfold Builtin.«object.__getattribute__»
  refine wpAny_bind (wpAny_of_eq (a := ((Value.ref x : Value), [Value.str "__class__" t]))
    (by first | rfl | (simp only [slotArgs]; rfl)) ?_)
  refine wpAny_bind (wpAny_pure (wpAny_bind (T0.at (wpAny_bind (T3.at ?_)))))
  show wpAny _ _ (holding [Value.builtin "object.__class__"] (call (.builtin "getset_descriptor.__get__")
    [.builtin "object.__class__", .ref x, .ref D]) >>= ret) _ _ _
  refine wpAny_bind (wpAny_holding (wpAny_call (class_get (s := ⟨hp, g, d, t + 1, os⟩)
    (ox := ox) (od := od) X I C.hm ?_)))
  refine wpAny_pure ?_
  show wpAny _ _ (handedOut (.ref D)) _ _ _
  rw [handedOut_of (v := Value.ref D) (by rfl)]
  first
    | exact wpAny_pure (wpAny_pure h)
    | exact wpAny_pure h
    | exact wpAny_pure (wpAny_bind (wpAny_pure (wpAny_pure h)))
/-- isinstance may be asked of it -/
theorem kit_exc (C : L2.ExcC K D) : KitX K (.ref x) (.ref D) (fun h => ∃ od, InstAt h x ox D od) where
  ty := fun _ _ _ ⟨_, I⟩ => I.type
  it := fun _ _ X _ => by
    obtain ⟨cdD, hcD, _⟩ := any_some C.hd
    unfold clsIn at hcD
    split at hcD
    · rename_i c1 d1 cd1 sl1 ho
      intro A2 Q2 E2 s2 k q
      unfold isType loadHead
      exact wpAny_bind (wpAny_loadPart (k _ _ (X _ _ ho))
        (wpAny_pure q))
    · cases hcD
  ne := fun h tp dd its n sl X htp => by
    obtain ⟨cdD, hcD, _⟩ := any_some C.hd
    refine Bool.eq_false_iff.mpr fun q => ?_
    obtain rfl : D = tp := Value.ref.inj (beq_iff_eq.mp q)
    unfold clsIn at hcD
    split at hcD
    · rename_i c1 d1 cd1 sl1 ho
      have z := (X _ _ ho).symm.trans htp
      cases z
    · cases hcD
  ca := fun X ⟨od, I⟩ k => exc_class (od := od) C X I k
end
end Fp
namespace Fp
open PySem PySem.Spec PyProof.Rows L2
/-- isinstance(e, c), e the exception that the suite holds, d its dict -/
def rIsX (K : PySem.W.Frag) (a : Addr) (cls : Value) (d : Option Addr) : List V → Hp → VK → Prop := fun xs H Q => ∃ (c : V) (cv : Value) (b : Bool) (D : Addr), xs = [.ref a, c] ∧ cls = .ref D ∧ (∀ u, RelV c u → u = cv) ∧ PySem.W.kitOne K (.ref D) cv = some b ∧ ExcC K D ∧ (∀ dd, d = some dd → ∃ fs, H dd = some (.xd fs)) ∧ Q (.bl b) H
theorem call_isX {X : Cx} {K : PySem.W.Frag} {a : Addr} {d : Option Addr} {oe : Obj} {cls : Value} {pn : List (Addr × Obj)} (hz : Zc cls d oe) (hf : ∃ vs, oe.data = .fields vs) (hK : X.K = K := by rfl) :
    CallR (X.suite a ((a, oe) :: pn)) (.builtin "isinstance") (rIsX K a cls d) := by
  subst hK
  intro pins s σ H xs us Q I r h
  obtain ⟨c, cv, b, D, rfl, rfl, hcv, e, C, hd, q⟩ := h
  cases r with
  | cons rx rr =>
    cases rr with
    | cons rt rr =>
      cases rr
      cases rx
      have ec := hcv _ rt
      subst ec
      obtain ⟨hget, _⟩ := I.pin (a, oe) (List.mem_append_left _ List.mem_cons_self)
      obtain ⟨vs, hv⟩ := hf
      have J : ∃ od, PySem.W.InstAt s.heap a oe D od := by
        obtain ⟨h1, h2⟩ := hz
        cases d with
        | none =>
          refine ⟨none, hget, h1, by unfold PySem.W.notCls; rw [hv] <;> rfl, ?_⟩
          rw [h2]
          trivial
        | some dd =>
          obtain ⟨fs, hdd⟩ := hd dd rfl
          obtain ⟨mA, hns, _⟩ : ObjOk X.prog X.w H s.heap dd (.xd fs) := I.hok dd _ hdd
          obtain ⟨od, ho, _⟩ := lookIn_ns hns
          refine ⟨some od, hget, h1, by unfold PySem.W.notCls; rw [hv] <;> rfl, ?_⟩
          rw [h2]
          exact ho
      exact PySem.W.kia_one (kit_exc C) I.kIn J e (fun z => nomatch z) fun tk => ⟨.bl b, H, I.kept (t' := tk) fun _ _ z => z, rfl, q⟩
end Fp

/-! own exceptions made as values; super().__init__() in their __init__ -/
namespace Fp
open PySem PySem.Spec PySem.Calls PyProof.Rows PySem.W
/-- the body super().__init__() -/
def supBody (p1 p2 p3 p4 p5 : Pos) : List Stmt := [.Expr (.Call (.Attribute (.Call (.Name "super" p1) [] [] p2) "__init__" p3) [] [] p4) p5]
/-- what the written part says of such a class, at C, and of its __init__ -/
structure SupC (K : Frag) (prog : Program) (C fI : Addr) : Prop where
  fn : ∃ (oc : Value) (od : Option Addr) (params : Arguments) (scope : Scope) (dV kV doc pm ct cl ccl : Value) (an cld cdd : Option Addr) (osl csl ccs : Array (Option Value)) (cc cda : Addr) (q : Str) (p1 p2 p3 p4 p5 : Pos) (vs : Array Value) (file : Str) (tf : Tok) (ar : Arg),
    K.lookup fI = some ⟨oc, od, .func (ksFn "__init__" q params (supBody p1 p2 p3 p4 p5) scope dV kV doc pm an (.ref cda) ct cc), osl⟩ ∧
    codeIn K (.ref cda) q = true ∧ K.lookup cc = some ⟨cl, cld, .cell (some (.ref C)), csl⟩ ∧
    K.lookup cda = some ⟨ccl, cdd, .fields vs, ccs⟩ ∧ vs[2]? = some (.str file tf) ∧ ((prog.main.file : Str) == file) = true ∧
    scope.kind = .function ∧ scope.isCoroutine = false ∧ scope.isGenerator = false ∧ (∀ x ∈ scope.names, x.2 ≠ .cell) ∧
    scope.names.lookup ("super" : Str) = some .globalImplicit ∧ scope.names.lookup ("__class__" : Str) = some .free ∧ scope.names.lookup ("self" : Str) = some .local ∧
    (params.posonlyargs ++ params.args).head? = some ar ∧ ar.arg = ("self" : Str) ∧
    (∀ L : Addr, ∃ pl : Sem Bool, eval (.Call (.Attribute (.Call (.Name "super" p1) [] [] p2) "__init__" p3) [] [] p4) (callEnv (ksFn "__init__" q params (supBody p1 p2 p3 p4 p5) scope dV kV doc pm an (.ref cda) ct cc) L fI) = (do
      let ov ← attributeBase (.Call (.Name "super" p1) [] [] p2) "__init__" (callEnv (ksFn "__init__" q params (supBody p1 p2 p3 p4 p5) scope dV kV doc pm an (.ref cda) ct cc) L fI) (eval (.Call (.Name "super" p1) [] [] p2) (callEnv (ksFn "__init__" q params (supBody p1 p2 p3 p4 p5) scope dV kV doc pm an (.ref cda) ct cc) L fI))
      standAt p3.atName
      let (f, first) ← holding [ov] (getMethod ov "__init__" pl)
      callWith p4 f first (backTo p4 (starEach [] (callEnv (ksFn "__init__" q params (supBody p1 p2 p3 p4 p5) scope dV kV doc pm an (.ref cda) ct cc) L fI))) [])) ∧
    (∀ L : Addr, interactive (callEnv (ksFn "__init__" q params (supBody p1 p2 p3 p4 p5) scope dV kV doc pm an (.ref cda) ct cc) L fI) = false) ∧
    (∀ L : Addr, swapsWith (.Call (.Attribute (.Call (.Name "super" p1) [] [] p2) "__init__" p3) [] [] p4) none p5.line (callEnv (ksFn "__init__" q params (supBody p1 p2 p3 p4 p5) scope dV kV doc pm an (.ref cda) ct cc) L fI) = pure false) ∧
    (∀ u : Value, bindArgs (ksFn "__init__" q params (supBody p1 p2 p3 p4 p5) scope dV kV doc pm an (.ref cda) ct cc) ⟨[u], []⟩ = pure [(("self" : Str), u)])
  top : (prog.main.scope.names.lookup ("super" : Str)).isSome = false
  opq : nsIn K cStatics "thirdparty.any" = some none
  up : ks_superIn K C C "__init__" = some (some (.builtin "ValueError.__init__"))
  ve : subIn K (.ref C) (.type "ValueError") = some true
  me : mroIn K C (.ref C) = some true
section
variable {prog : Program} {w : World} {A : Around} {K : Frag} {mg : Str → Option Value} {base : Heap} {C fI e t0 : Addr} {R : Result → Shared → Prop} {h : Heap} {g : Array GenState} {d : Drawn} {t : Nat} {os : OsState}
theorem run_sup (S : SupC K prog C fI) (T : L2.OexC K C) (M : L2.Mod K mg base) (hs : mg "super" = none) (kb : ∀ b o, base.get? b = some o → h.get? b = some o) (hr : A.depth < recursionLimit)
    (he : h.get? e = some (HandSPX.excO C t0))
    (hq : ∀ h' t1 t', (∀ b o, b ≠ e → h.get? b = some o → h'.get? b = some o) → h'.get? e = some (HandSPX.excO C t1) → R (.ok (.ret .none)) ⟨h', g, d, t', os⟩) :
    codeAny (model prog w) A (.call (.ref fI) ⟨[.ref e], []⟩) R ⟨h, g, d, t, os⟩ := by
  obtain ⟨oc, od, params, scope, dV, kV, doc, pm, ct, cl, ccl, an, cld, cdd, osl, csl, ccs, cc, cda, q, p1, p2, p3, p4, p5, vs, file, tf, ar, hf, hcd, hcell, hcode, hvs, hfile, hk, hco, hgen, hnc, hks, hkc, hka, hp, har, hev, hit, hsw, hbind⟩ := S.fn
  obtain ⟨nm, qn, N, bs, bm, sn, sub, ab, col, dd, k0, k1, k2, k3, k5, hC, hbm⟩ := T.cls
  have hcl : clsIn K C = some { name := nm, bases := bs, mro := .ref C :: bm, ns := N, qualname := qn, hasDict := true, slotNames := sn, subclasses := sub, abstract := ab, collection := col, hasDel := false } := by
    unfold clsIn
    rw [hC] <;> rfl
  have Xh : K.In h := M.kin.keeps kb
  refine ks_codeAny_call_defAt (body := supBody p1 p2 p3 p4 p5) (binds := [(("self" : Str), .ref e)]) hr (Xh _ _ hf) rfl (M.nolimit.keeps kb) (codeRec_of Xh hcd) rfl (BindsTo.of_eq (hbind _)) hnc (fun x hx => ?_) (fun h1 hns hk1 => ?_) hco hgen hk
  · rw [List.mem_singleton.mp hx]
    exact hka
  · have X1 : K.In h1 := Xh.keeps hk1
    have he1 := hk1 _ _ he
    have glob1 : h1.Ns mainGlobals mg := M.glob.keeps fun b o z => hk1 _ _ (kb _ _ z)
    obtain ⟨mb, hmb, hbb⟩ := M.blt
    have blt1 : h1.Ns builtinsNs mb := hmb.keeps fun b o z => hk1 _ _ (kb _ _ z)
    obtain ⟨pl, hev⟩ := hev h.objs.size
    refine ks_wpAt_execs_cons (ks_wpAt_Expr_any (ks_wpAt_MethodCall (pl := pl) ?_ hev) (hit _) (hsw _))
    refine ks_wpAt_super_base (ar := ar) hks hkc (by decide) rfl (X1 _ _ hf) rfl hp rfl (X1 _ _ hcode) rfl hvs hfile S.top ?_
    refine ks_loadName_global hk hks (loadGlobal_builtin glob1 hs blt1 ((hbb _ (by decide)).trans (by decide +kernel)) ⟨rfl, ?_⟩)
    refine wpAny_loadName_free hk hkc rfl ⟨_, X1 _ _ hcell, rfl⟩ ?_
    rw [har]
    refine wpAny_loadName_local (v := .ref e) hk hka hns (by rfl) ?_
    refine ks_wpAny_isType_cls (X1 _ _ hC) rfl ⟨rfl, ?_⟩
    have Ie : InstAt h1 e (HandSPX.excO C t0) C none := ⟨he1, rfl, rfl, trivial⟩
    refine ks_wpAny_call_super (X1 _ _ hC) rfl he1 rfl (fun c z => nomatch z) (looks_mroIn X1 S.me) (fun h2 e2 k2 => ?_)
    have X2 : K.In h2 := X1.keeps k2
    have he2 := k2 _ _ he1
    have I2 : InstAt h2 e (HandSPX.excO C t0) C none := ⟨he2, rfl, rfl, trivial⟩
    have hI2 : Looks (model prog w) h2 (isInstance (.ref e) (.type "ValueError")) true := I2.type.andThen (looks_subIn X2 S.ve)
    have hup : alongIn K "__init__" (((Value.ref C :: bm).dropWhile (· != .ref C)).drop 1) = some (some (.builtin "ValueError.__init__")) := by
      have := S.up
      unfold ks_superIn at this
      rw [hcl] at this
      exact this
    refine kxs_getMethod kxs_ValueError e2 (looks_opaque X2 S.opq) (l₀ := .ref C :: bm) (fun A2 Q2 E2 s2 k q => wpAny_bind ((looks_clsIn X2 hcl) A2 _ E2 s2 k (wpAny_pure q))) rfl X2 hup hI2 (ks_ne X2 I2 hcl) (by decide) ?_
    have kP : ∀ b o, h2.get? b = some o → (h2.push (kxs_mw "ValueError.__init__" e)).get? b = some o := fun b o z => Heap.get?_push_of_some _ z
    have hu : (h2.push (kxs_mw "ValueError.__init__" e)).get? h2.objs.size = some (kxs_mw "ValueError.__init__" e) := Heap.get?_push_size _ rfl
    refine kxs_callWith (i := "ValueError.__init__") (x := e) rfl (evalArgs_empty ⟨hu, ?_⟩)
    have X3 : K.In (h2.push (kxs_mw "ValueError.__init__" e)) := X2.keeps kP
    have he3 := kP _ _ he2
    have FB := PySem.F.excBase_ValueError
    refine wpAny_call (codeAny_of_tree ?_)
    show wpAny _ _ (callAny (.ref h2.objs.size) ⟨[], []⟩) _ _ _
    simp only [callAny]
    refine wpAny_bind (wpAny_load hu ?_)
    have hmw : (Value.type "method-wrapper" == Value.type "method" || Value.type "method-wrapper" ==
      Value.type "builtin_function_or_method" || Value.type "method-wrapper" == Value.type "method-wrapper") = true := by decide
    simp only [kxs_mw, hmw, if_true]
    refine KFB.if_so (by decide) ?_
    refine wpAny_bind (check_bound_init FB.toExcCallFacts (X3 _ _ hC) he3 rfl ?_)
    refine wpAny_bind (wpAny_pure (wpAny_pure ?_))
    refine ⟨plainId_quiet FB.init.plain _, codeAny_builtin FB.initEntry ?_⟩
    refine exc_init_tree (cls := .ref C) (t0 := t0) (dv := none) (c2 := .none) (c3 := .none) (b4 := .bool false) he3 (Nat.zero_le _) (fun h4 k4 e4 t4 => ?_)
    refine wpAt_of_wpAny (wpAny_execs_nil ?_)
    exact hq _ _ _ (fun b o hb z => k4 b o hb (kP _ _ (k2 _ _ (hk1 _ _ z)))) e4
end
end Fp
namespace Fp
open PySem PySem.Spec PyProof.Rows L2
/-- an exception of the class C stands at a, with these attributes (the last one stored first) -/
def ExV (H : Hp) (a C : Addr) (fs : List (Str × V)) : Prop := (fs = [] ∧ H a = some (exo a C none)) ∨ ∃ dx, H a = some (exo a C (some dx)) ∧ H dx = some (exd dx fs)
theorem ExV.same {H H' : Hp} {a C : Addr} {fs : List (Str × V)} (h : ExV H a C fs) (e : Same H H') : ExV H' a C fs := by
  rcases h with ⟨h1, h2⟩ | ⟨dx, h1, h2⟩
  · exact .inl ⟨h1, e _ _ h2⟩
  · exact .inr ⟨dx, e _ _ h1, e _ _ h2⟩
/-- C(e, ..): its __init__ keeps sp -/
def tMkE (C : Addr) (sp : Sp) (ta : TA) : TE := fun σ H Q => ta σ H fun vs H1 => vs.length ≤ 1000 ∧ ∀ a, H1 a = none → sp (.ref a :: vs) (upd H1 a (exo a C none)) (fun v H2 => v = .non ∧ Q (.ref a) H2) C8.E0
/-- a class whose own __init__ is a def of the text -/
def Xn (P : Program) (w : World) (K : PySem.W.Frag) (mg : Str → Option Value) (base : Heap) (k : Nat) (C : Addr) (ps : List Str) (sp : Sp) : Prop :=
  ∃ fI fd, OexC K C ∧ PySem.W.findIn K (.ref C) "__init__" = some (some (.ref fI)) ∧ PySem.W.typeIn K (.ref fI) = some (.type "function") ∧ Binds K fd ps [] ∧ FnOk P w K mg base C8.CX0 k fI fd ps sp
/-- a class whose __init__ says super().__init__() -/
def Xs (K : PySem.W.Frag) (P : Program) (C : Addr) : Prop :=
  ∃ fI, OexC K C ∧ PySem.W.findIn K (.ref C) "__init__" = some (some (.ref fI)) ∧ PySem.W.typeIn K (.ref fI) = some (.type "function") ∧ SupC K P C fI
section
variable {X : Cx} {C : Addr} {k : Nat} {ps : List Str} {sp : Sp} {x : Str} {e : Expr} {es : List Expr} {p pos : Pos} {ta : TA}
theorem pkE (M : Xn X.prog X.w X.K X.mg X.base k C ps sp) (hr : Room (k + 1) X.A) (hg : Gl X x) (hm : X.mg x = some (.ref C)) (ha : PA X (e :: es) ta)
    (hdb : (x == ("__debug__" : Str)) = false := by decide) (he : starEach (e :: es) X.env = (false, eval e X.env) :: starEach es X.env := by rfl) (hpl : (backTo pos (starEach es X.env)).any (·.1) = false := by rfl) :
    PE X (.Call (.Name x p) (e :: es) [] pos) (tMkE C sp ta) := by
  refine ⟨fun pins s σ H Q I hyp => ?_⟩
  obtain ⟨fI, fd, T, iC, tI, hb, F1⟩ := M
  obtain ⟨nm, q, N, bs, bm, sn, sub, ab, col, dd, k0, k1, k2, k3, k5, hC, hbm⟩ := T.cls
  refine wpAny_Call_Name_kw (ld_glob I hg hm ?_ hdb)
  refine PySem.W.callWith_K (h₀ := X.base) I.ok.mod.kin T.kC (thn (ha.run pos pins s σ H _ I hyp) fun us s1 ⟨vs, H1, I1, r1, hz, q1⟩ => ⟨I1.kIn, ?_⟩) he hpl
  show wpAny _ _ (call (.ref C) us) _ _ _
  obtain ⟨hp, g, dr, tk, os⟩ := s1
  have sz : hp.objs.size ≤ hp.objs.size + 1 := Nat.le_succ _
  have hq := q1 (hp.objs.size + 1) (I1.hok.fresh sz)
  have kk : ∀ b o, hp.get? b = some o → ((hp.push (PySem.W.kdv_tup us)).push (PySem.HandSPX.excO C hp.objs.size)).get? b = some o := fun b o z =>
    Heap.get?_push_of_some _ (Heap.get?_push_of_some _ z)
  have hget : ((hp.push (PySem.W.kdv_tup us)).push (PySem.HandSPX.excO C hp.objs.size)).get? (hp.objs.size + 1) =
      some (PySem.HandSPX.excO C hp.objs.size) := by heap_get
  have I2 : Inv X pins σ (upd H1 (hp.objs.size + 1) (exo (hp.objs.size + 1) C none)) ⟨(hp.push (PySem.W.kdv_tup us)).push (PySem.HandSPX.excO C hp.objs.size), g, dr, tk, os⟩ :=
    Inv.laid (s := ⟨hp, g, dr, tk, os⟩) (t' := tk) (a := hp.objs.size + 1) (o := exo (hp.objs.size + 1) C none) I1 kk sz (exo_ok hget)
  have r2 : Vals (V.ref (hp.objs.size + 1) :: vs) (Value.ref (hp.objs.size + 1) :: us) := .cons rfl r1
  have lenU : (Value.ref (hp.objs.size + 1) :: us).length = ps.length := by
    have z := vals_len r2
    rw [F1.len _ _ _ _ hq] at z
    exact z.symm
  have us_le : us.length ≤ sizeLine := by
    rw [← vals_len r1, sizeLine_eq]
    omega
  have bnd := hb ⟨(hp.push (PySem.W.kdv_tup us)).push (PySem.HandSPX.excO C hp.objs.size), g, dr, tk, os⟩ (Value.ref (hp.objs.size + 1) :: us) I2.kIn (by rw [List.append_nil]; exact lenU)
  rw [List.append_nil] at bnd
  refine wpAny_call (PySem.HandSPX.call_own F.excBase_ValueError (fun Y => PySem.HandSPX.refsVE_contains Y bm hbm) (I1.kIn _ _ hC) (PySem.W.looks_findIn I1.kIn iC)
    (fun self => PySem.W.bind_fn I1.kIn self tI) us_le (codeAny_mono (F1.run _ X.stack _ _ ⟨Value.ref (hp.objs.size + 1) :: us, []⟩ _ _ _ _ (hr.make C us []) (I2.env0.make C us []) bnd r2 hq) fun r sx hx => ?_))
  cases r with
  | error er => exact (show False from hx).elim
  | ok fl =>
    cases fl with
    | ret u =>
      obtain ⟨v, H2, J, rv, ev, q2⟩ := I2.after hx
      subst ev
      exact ⟨rv, .ref (hp.objs.size + 1), H2, J, rfl, q2⟩
    | next => exact False.elim hx
    | brk => exact False.elim hx
    | cont => exact False.elim hx
/-- C(), super().__init__() in its __init__ -/
def tMkS (C : Addr) : TE := fun _ H Q => ∀ a, H a = none → Q (.ref a) (upd H a (exo a C none))
theorem pkS (M : Xs X.K X.prog C) (hr : Room 2 X.A) (hg : Gl X x) (hm : X.mg x = some (.ref C)) (hs : X.mg "super" = none) (hdb : (x == ("__debug__" : Str)) = false := by decide) :
    PE X (.Call (.Name x p) [] [] pos) (tMkS C) := by
  refine ⟨fun pins s σ H Q I hyp => ?_⟩
  obtain ⟨fI, T, iC, tI, S⟩ := M
  obtain ⟨nm, q, N, bs, bm, sn, sub, ab, col, dd, k0, k1, k2, k3, k5, hC, hbm⟩ := T.cls
  refine wpAny_Call_Name_kw (ld_glob I hg hm ?_ hdb)
  refine PySem.W.callWith_K0 I.kIn T.kC ?_
  show wpAny _ _ (call (.ref C) []) _ _ _
  have bsI := I.bk
  have kI := I.kIn
  have modI := I.mod
  obtain ⟨hp, g, dr, tk, os⟩ := s
  have hn : H (hp.objs.size + 1) = none := I.hok.fresh (Nat.le_succ _)
  have kk : ∀ b o, hp.get? b = some o → ((hp.push (PySem.W.kdv_tup [])).push (PySem.HandSPX.excO C hp.objs.size)).get? b = some o := fun b o z =>
    Heap.get?_push_of_some _ (Heap.get?_push_of_some _ z)
  have hget : ((hp.push (PySem.W.kdv_tup [])).push (PySem.HandSPX.excO C hp.objs.size)).get? (hp.objs.size + 1) =
      some (PySem.HandSPX.excO C hp.objs.size) := by heap_get
  refine wpAny_call (PySem.HandSPX.call_own F.excBase_ValueError (fun Y => PySem.HandSPX.refsVE_contains Y bm hbm) (kI _ _ hC) (PySem.W.looks_findIn kI iC)
    (fun self => PySem.W.bind_fn kI self tI) (Nat.zero_le _) ?_)
  refine run_sup S T modI hs (fun b o z => kk _ _ (bsI _ _ z)) (hr.make C [] []).depth hget (fun h' t1 t' k' e' => ?_)
  have J : Inv X pins σ (upd H (hp.objs.size + 1) (exo (hp.objs.size + 1) C none)) ⟨h', g, dr, t', os⟩ :=
    Inv.laid (s := ⟨hp, g, dr, tk, os⟩) (t' := t') (a := hp.objs.size + 1) (o := exo (hp.objs.size + 1) C none) I
      (fun b u z => k' b u (Nat.ne_of_lt (Nat.lt_succ_of_lt (Heap.lt_size z))) (kk _ _ z)) (Nat.le_succ _) (exo_ok e')
  exact ⟨rfl, .ref (hp.objs.size + 1), _, J, rfl, hyp _ hn⟩
/-- e.f, e an exception that stands in the heap -/
def tFldE (K : PySem.W.Frag) (f : Str) (te : TE) : TE := fun σ H Q => te σ H fun x H1 => ∃ a C fs v, x = .ref a ∧ ExV H1 a C fs ∧ XfC K C ∧ PySem.W.findIn K (.ref C) f = some none ∧ fs.lookup f = some v ∧ Q v H1
theorem pe_fldE {K : PySem.W.Frag} {te : TE} {f : Str} (he : PE X e te) (hb : attributeBase e f X.env (eval e X.env) = eval e X.env := by rfl) (hK : X.K = K := by rfl) : PE X (.Attribute e f pos) (tFldE K f te) := by
  subst hK
  refine ⟨fun pins s σ H Q I h => ?_⟩
  refine attr_of hb (thn (he.run pins s σ H _ I h) fun u s1 hh => ?_)
  obtain ⟨y, H1, I1, rx, a, C, fs, v, rfl, hE, T, hno, l, q⟩ := hh
  obtain rfl : u = Value.ref a := rx
  rcases hE with ⟨rfl, _⟩ | ⟨dx, h1, h2⟩
  · cases l
  · obtain ⟨t1, ho⟩ := exo_at I1.hok h1
    obtain ⟨mA, hns, hr⟩ := exd_at I1.hok h2
    obtain ⟨od, hod, hl⟩ := lookIn_ns hns
    obtain ⟨u, hu, ru⟩ := RelO.some_of (v := v) (o := mA f) (by rw [← l]; exact hr f)
    have J : PySem.W.InstAt s1.heap a { cls := .ref C, dict := some dx, data := .fields #[.ref t1, .none, .none, .none, .bool false, .none] } C (some od) := ⟨ho, rfl, rfl, hod⟩
    exact HandSPX.exc_get I1.kIn J T.ga T.gg T.exC (PySem.W.findObj_own T.hdC hno rfl (by rw [hl, hu])) (handed_of ru) ⟨v, H1, I1.tok _, ru, q⟩
/-- isinstance(e, c) of such -/
def rIsV (K : PySem.W.Frag) : List V → Hp → VK → Prop := fun xs H Q => ∃ (a C : Addr) (fs : List (Str × V)) (c : V) (cv : Value) (b : Bool), xs = [.ref a, c] ∧ ExV H a C fs ∧ ExcC K C ∧ ClsV c cv ∧ PySem.W.kitOne K (.ref C) cv = some b ∧ Q (.bl b) H
theorem call_isV {K : PySem.W.Frag} (hK : X.K = K := by rfl) : CallR X (.builtin "isinstance") (rIsV K) := by
  subst hK
  intro pins s σ H xs us Q I r h
  obtain ⟨a, C, fs, c, cv, b, rfl, hE, T, hcv, ek, q⟩ := h
  obtain ⟨u1, u2, rfl, r1, r2⟩ := vals2 r
  obtain rfl : u1 = Value.ref a := r1
  have ec := hcv.eq r2
  subst ec
  have J : ∃ ox od, PySem.W.InstAt s.heap a ox C od := by
    rcases hE with ⟨_, h1⟩ | ⟨dx, h1, h2⟩
    · obtain ⟨t1, ho⟩ := exo_at I.hok h1
      exact ⟨_, none, ho, rfl, rfl, trivial⟩
    · obtain ⟨t1, ho⟩ := exo_at I.hok h1
      obtain ⟨mA, hns, _⟩ := exd_at I.hok h2
      obtain ⟨od, hod, _⟩ := lookIn_ns hns
      exact ⟨_, some od, ho, rfl, rfl, hod⟩
  obtain ⟨ox, od, J⟩ := J
  exact PySem.W.kia_one (kit_exc (ox := ox) T) I.kIn ⟨od, J⟩ ek (fun z => nomatch z) fun tk => ⟨.bl b, H, I.kept (t' := tk) fun _ _ z => z, rfl, q⟩
theorem ps_ostK {K : PySem.W.Frag} {o : Expr} {f : Str} {p' : Pos} {to te : TE} (ho : PE X o to) (he : PE X e te) (hs : swapsWith e (some (.Attribute o f p')) pos.line X.env = pure false := by rfl) (hK : X.K = K := by rfl) :
    PS X (.Assign [.Attribute o f p'] e pos) (tOst K f to te) := by
  subst hK
  exact ps_ost ho he hs
end
/-- isinstance among own classes: F and ValueError's mro behind the class itself -/
structure ClF (K : PySem.W.Frag) (F C : Addr) : Prop where
  cls : ∃ nm q N bs sn sub ab col dd k0 k1 k2 k3 k5, K.lookup C = some (excClassObj nm q C N bs (.ref F :: HandSPX.veTail) true sn sub ab col dd k0 k1 k2 k3 k5 "ValueError.__new__")
section
variable {K : PySem.W.Frag} {F C D : Addr}
theorem ClF.cd (h : ClF K F C) : ∃ cd : ClassData, PySem.W.clsIn K C = some cd ∧ cd.mro = .ref C :: .ref F :: HandSPX.veTail ∧ cd.hasDict = true := by
  obtain ⟨nm, q, N, bs, sn, sub, ab, col, dd, k0, k1, k2, k3, k5, hC⟩ := h.cls
  refine ⟨{ name := nm, bases := bs, mro := .ref C :: .ref F :: HandSPX.veTail, ns := N, qualname := q, hasDict := true, slotNames := sn, subclasses := sub, abstract := ab, collection := col, hasDel := false }, ?_, rfl, rfl⟩
  unfold PySem.W.clsIn
  rw [hC] <;> rfl
theorem ClF.mro (h : ClF K F C) (b : Value) : PySem.W.mroIn K C b = some ((Value.ref C :: Value.ref F :: HandSPX.veTail).contains b) := by
  obtain ⟨cd, h1, h2, _⟩ := h.cd
  unfold PySem.W.mroIn
  rw [h1, Option.bind_some, h2]
  rfl
theorem ClF.ty (h : ClF K F C) : PySem.W.typeIn K (.ref C) = some (.type "type") := by
  obtain ⟨nm, q, N, bs, sn, sub, ab, col, dd, k0, k1, k2, k3, k5, hC⟩ := h.cls
  unfold PySem.W.typeIn
  simp only [hC]
  rfl
theorem ClF.is (h : ClF K F C) (hD : (PySem.W.clsIn K D).isSome = true) (tD : PySem.W.typeIn K (.ref D) = some (.type "type")) (hF : D ≠ F) : PySem.W.kitOne K (.ref C) (.ref D) = some (decide (C = D)) := by
  unfold PySem.W.kitOne
  by_cases e : C = D
  · subst e
    rw [if_pos (by simp), decide_eq_true rfl]
  · rw [if_neg (by simp [e]), decide_eq_false e]
    show (if ((PySem.W.clsIn K D).isSome && PySem.W.typeIn K (.ref D) == some (.type "type")) = true then PySem.W.subIn K (.ref C) (.ref D) else none) = _
    rw [hD, tD]
    show (if (true && (some (Value.type "type") == some (Value.type "type"))) = true then PySem.W.mroIn K C (.ref D) else none) = _
    rw [if_pos (by decide), h.mro]
    have : (Value.ref C :: Value.ref F :: HandSPX.veTail).contains (.ref D) = false := by
      simp [HandSPX.veTail, Ne.symm e, hF]
    rw [this]
end
end Fp

/-! the errors of the package as a family -/
namespace Fp
open PySem PySem.Spec PyProof.Rows L2
structure EC (K : PySem.W.Frag) (F C : Addr) : Prop where
  cl : ClF K F C
  sa : PySem.W.findIn K (.ref C) "__setattr__" = some (some (.builtin "object.__setattr__"))
  ga : PySem.W.findIn K (.ref C) "__getattribute__" = some (some (.builtin "BaseException.__getattribute__"))
  gg : PySem.W.findIn K (.ref C) "__getattr__" = some none
  ca : PySem.W.findIn K (.ref C) "__class__" = some (some (.builtin "object.__class__"))
  kC : PySem.W.keepIn K (.ref C) = true
structure EFam (K : PySem.W.Frag) (F : Addr) (Cs : List Addr) : Prop where
  nd : Cs.Nodup
  nF : F ∉ Cs
  f1 : (PySem.W.clsIn K F).isSome = true
  f2 : PySem.W.typeIn K (.ref F) = some (.type "type")
  sp : PySem.W.specialIn K (.builtin "object.__class__") "__get__" = some (some (.builtin "getset_descriptor.__get__"))
  tk : PySem.W.takesIn K (.builtin "object.__class__") = some true
  ec : ∀ C ∈ Cs, EC K F C
section
variable {K : PySem.W.Frag} {F C D : Addr} {Cs : List Addr}
theorem EC.sub (h : EC K F C) (b : Value) (hb : HandSPX.veTail.contains b = true) : PySem.W.subIn K (.ref C) b = some true := by
  show PySem.W.mroIn K C b = _
  rw [h.cl.mro, List.contains_cons, List.contains_cons, hb, Bool.or_true, Bool.or_true]
theorem EC.hd (h : EC K F C) : PySem.W.hasDictIn K C = true := by
  obtain ⟨cd, h1, _, h3⟩ := h.cl.cd
  unfold PySem.W.hasDictIn
  rw [h1]
  exact h3
theorem EC.oex (h : EC K F C) : OexC K C := by
  obtain ⟨nm, q, N, bs, sn, sub, ab, col, dd, k0, k1, k2, k3, k5, hC⟩ := h.cl.cls
  exact ⟨⟨nm, q, N, bs, _, sn, sub, ab, col, dd, k0, k1, k2, k3, k5, hC, by show (HandSPX.veTail == HandSPX.veTail) = true; decide +kernel⟩, h.sa, h.sub _ (by decide +kernel), h.cl.ty, h.kC⟩
theorem EC.xf (h : EC K F C) : XfC K C := ⟨h.ga, h.gg, h.sub _ (by decide +kernel), h.hd⟩
theorem EFam.exc (f : EFam K F Cs) (h : C ∈ Cs) : ExcC K C := by
  have e := f.ec C h
  exact ⟨e.ga, e.gg, e.sub _ (by decide +kernel), e.hd, e.ca, f.sp, f.tk, e.sub _ (by decide +kernel)⟩
theorem EFam.is (f : EFam K F Cs) (h : C ∈ Cs) (hD : D ∈ Cs) : PySem.W.kitOne K (.ref C) (.ref D) = some (decide (C = D)) := by
  obtain ⟨cd, h1, _⟩ := (f.ec D hD).cl.cd
  exact (f.ec C h).cl.is (by rw [h1]; rfl) (f.ec D hD).cl.ty fun z => f.nF (z ▸ hD)
theorem EFam.isF (f : EFam K F Cs) (h : C ∈ Cs) : PySem.W.kitOne K (.ref C) (.ref F) = some true := by
  have ne : C ≠ F := fun z => f.nF (z ▸ h)
  unfold PySem.W.kitOne
  rw [if_neg (by simp [ne])]
  show (if ((PySem.W.clsIn K F).isSome && PySem.W.typeIn K (.ref F) == some (.type "type")) = true then PySem.W.mroIn K C (.ref F) else none) = _
  rw [f.f1, f.f2, if_pos (by decide), (f.ec C h).cl.mro]
  have : (Value.ref C :: Value.ref F :: HandSPX.veTail).contains (.ref F) = true := by simp
  rw [this]
theorem EFam.isVE (f : EFam K F Cs) (h : C ∈ Cs) : PySem.W.kitOne K (.ref C) (.type "ValueError") = some true := by
  unfold PySem.W.kitOne
  rw [if_neg (by simp)]
  show (if PySem.W.kitMeta "ValueError" = true then PySem.W.subIn K (.ref C) (.type "ValueError") else none) = _
  rw [if_pos (by decide +kernel), (f.ec C h).sub _ (by decide +kernel)]
end
/-! ### promises -/
/-- self.f = v -/
def spI (C : Addr) (f : Str) : Sp := fun vs H Q _ => ∃ a v, vs = [.ref a, v] ∧ H a = some (exo a C none) ∧ ∀ H', (∀ b o, H b = some o → b ≠ a → H' b = some o) → ExV H' a C [(f, v)] → Q .non H'
def spIo (C : Addr) (f : Str) : Sp := fun vs H Q _ => ∃ a b xs, vs = [.ref a, .ref b] ∧ H a = some (exo a C none) ∧ H b = some (.lst xs) ∧ ∀ H' l, (∀ b o, H b = some o → b ≠ a → H' b = some o) → H' l = some (.lst xs) → ExV H' a C [(f, .ref l)] → Q .non H'
def spI2 (C : Addr) (f g : Str) : Sp := fun vs H Q _ => ∃ a v w, vs = [.ref a, v, w] ∧ H a = some (exo a C none) ∧ ∀ H', (∀ b o, H b = some o → b ≠ a → H' b = some o) → ExV H' a C [(g, w), (f, v)] → Q .non H'
def spOwnL : Sp := fun vs H Q _ => ∃ b xs, vs = [.ref b] ∧ H b = some (.lst xs) ∧ ∀ l, H l = none → Q (.ref l) (upd H l (.lst xs))
def spPickS : Sp := fun vs H Q _ => ∃ p c z t, vs = [.ref p, .str z] ∧ PenOk H p c t ∧ t ≤ 900000000 ∧ 0 < z.length ∧ z.length ≤ 900 ∧ OkS z ∧ ∀ (c' : Nat) (H' : Hp), OkS ⟨#[c']⟩ → PenOk H' p c (t + 1) → But p H H' → Q (.str ⟨#[c']⟩) H'
def barS : List Str := ["tags", "sums", "state", "on", "go", "end", "none", "x"]
def spBar : Sp := fun vs H Q _ => vs = [] ∧ ∀ l H', H l = none → Same H H' → H' l = some (.lst (barS.map V.str)) → Q (.ref l) H'
def spNames : Sp := fun vs H Q _ => ∃ (p c : Addr) (m t : Nat), vs = [.ref p, .int (m : Int)] ∧ PenOk H p c t ∧ t ≤ 800000000 ∧ m ≤ 1000 ∧ ∀ (a : Addr) (H' : Hp) (zs : List Str), (0 < m → zs ≠ []) → zs.length ≤ 100 → (∀ z ∈ zs, z.length ≤ 300) → (∀ z ∈ zs, OkS z) → Dt H' (.ref a) (.list (zs.map PyData.str)) → PenOk H' p c (t + 200) → But p H H' → Q (.ref a) H'
def spClsN (Cs : List Addr) : Sp := fun vs H Q _ => ∃ a C fs, vs = [.ref a] ∧ ExV H a C fs ∧ C ∈ Cs ∧ Q (.int 1) H
def spIsOne (Cs : List Addr) : Sp := fun vs H Q _ => ∃ a C fs, vs = [.ref a, .bl true] ∧ ExV H a C fs ∧ C ∈ Cs ∧ Q (.bl true) H
/-- a list of pairs: an error, v -/
def spErrs (Cs : List Addr) : Sp := fun vs H Q _ => ∃ v, vs = [v] ∧ ∀ (l : Addr) (H' : Hp) (ps : List Addr), Same H H' → H' l = some (.lst (ps.map V.ref)) → ps.length ≤ 10 → (∀ p ∈ ps, ∃ a C fs, H' p = some (.tup [.ref a, v]) ∧ ExV H' a C fs ∧ C ∈ Cs) → Q (.ref l) H'
def spPenB : Sp := fun vs H Q _ => ∃ p c t, vs = [.ref p] ∧ PenOk H p c t ∧ t ≤ 700000000 ∧ ∀ H', PenOk H' p c (t + 300) → But p H H' → Q (.bl true) H'
/-! ### enumerate in a comprehension, the items flat -/
section
variable {K : PySem.W.Frag} {g : TG} {tt : TT} {te : TE} {vs : List Nat} {σ : L2.St} {H : Hp} {Q : VK} {xs : List V} {a : Addr}
theorem lcg_enum (hS : SqL K H a xs) (hz : xs.length < 100000) (R : List V → Prop) (R0 : R []) 
    (hs : ∀ i x H' T, xs[i]? = some x → Same H H' → H' T = none → ∀ (acc : List V), R acc → ∀ (R1 : V → Hp → Prop) (R2 : Hp → Prop), (∀ y H'', Same (upd H' T (.tup [.int (i : Nat), x])) H'' → R (acc ++ [y]) → R1 y H'') →
      g (.ref T) (wipe σ vs) (upd H' T (.tup [.int (i : Nat), x])) fun σ2 H2 => wipe σ2 vs = wipe σ vs ∧ tt σ2 H2 fun b H3 => if b = true then te σ2 H3 R1 else R2 H3)
    (hd : ∀ D acc H', H D = none → Same H H' → H' D = some (.lst acc) → acc.length = xs.length → R acc → Q (.ref D) H') : LcG (Ite K a) g tt te vs σ H Q := by
  intro D hD
  refine ⟨fun i m H' => m = xs.length - i ∧ i ≤ xs.length ∧ ∃ acc, H' D = some (.lst acc) ∧ acc.length = i ∧ R acc ∧ Same H H', ⟨xs.length, by simp, Nat.zero_le _, [], upd_same, rfl, R0, same_new hD⟩, ?_⟩
  rintro i m H' ⟨rfl, hi, acc, h1, h2, h3, h4⟩
  by_cases hlt : i < xs.length
  · refine .inr ⟨⟨xs, xs[i], h4.seq hS, List.getElem?_eq_getElem hlt⟩, fun H'' => ∃ acc, H'' D = some (.lst acc) ∧ acc.length = i + 1 ∧ R acc ∧ Same H H'', fun H'' ⟨acc', p'⟩ => ⟨xs.length - (i + 1), by omega, rfl, hlt, acc', p'⟩, fun x H'' y => ?_⟩
    obtain ⟨T, x', rfl, hT, rfl, hx⟩ := y
    have e2 : Same H' (upd H' T (.tup [.int (i : Nat), x'])) := same_new hT
    have big : 100000 ≤ sizeLine := by decide
    refine hs i x' H' T (hx xs (h4.seq hS)) h4 hT acc h3 _ _ (fun y H'' e3 r => ?_)
    exact ⟨acc, e3 _ _ (e2 _ _ h1), by omega, _, upd_same, by rw [List.length_append, h2]; rfl, r, Same.mut ((h4.trans e2).trans e3) hD⟩
  · have e : i = xs.length := by omega
    subst e
    exact .inl ⟨⟨xs, h4.seq hS, Nat.le_refl _⟩, hd D acc H' hD h4 h1 h2 h3⟩
end
section
variable {X : Cx} {K : PySem.W.Frag}
theorem pi_enumK {e : Expr} {ta : TA} {p pos tpos : Pos} {elts : List Expr} {kk : Nat} (hg : Gl X "enumerate") (hm : X.mg "enumerate" = none) (ha : PA X [e] ta) (hs : starEach [e] X.env = [(false, eval e X.env)] := by rfl) (hK : X.K = K := by rfl) :
    PI X (.Tuple elts kk tpos) (.Call (.Name "enumerate" p) [e] [] pos) (iEnum K ta) := by
  subst hK
  exact pi_enum hg hm ha hs
theorem lc_iE {ta : TA} {g : TG} {tt : TT} {te : TE} {vs : List Nat} {σ : L2.St} {H : Hp} {Q : VK} : tLc (iEnum K ta) g tt te vs σ H Q = ta σ H (fun zs H1 => ∃ a xs, zs = [.ref a] ∧ SqL K H1 a xs ∧ LcG (Ite K a) g tt te vs σ H1 Q) := rfl
end
theorem seqi2 {t u v : TS} {D : Ends} {σ : L2.St} {H : Hp} (h : ∀ k : L2.St → Hp → Prop, k = v D → t { D with nx := u { D with nx := k } } σ H) : tSeq t (tSeq u v) D σ H := h _ rfl
/-! ### the letters of the names -/
def sgS : Str := "abcdefghijklmnopqrstuvw"
theorem sg_at : ∀ i, i < 23 → sgS.cps.toList[i]? = some (97 + i) := by decide +kernel
theorem sg_len : sgS.length = 23 := by decide +kernel
def oneS (n : Nat) : Str := ⟨#[n]⟩
theorem sg_ok : OkS sgS := by decide +kernel
theorem one_ok {n : Nat} (h : n < 1000) : OkS (oneS n) := okS_one (by omega)
theorem one_len (n : Nat) : (oneS n).length = 1 := rfl
theorem one_free : ∀ i, i < 23 → oneS (97 + i) ∉ barS := by decide +kernel
theorem bar_last : barS.all (fun b => decide (b = "x") || !decide (b.cps.toList.getLast? = some 120)) = true := by decide +kernel
theorem bar_noz : barS.all (fun b => !b.cps.toList.contains 122) = true := by decide +kernel
theorem app_x {w : Str} (h : 0 < w.length) : w ++ "x" ∉ barS := fun hm => by
  have h1 := List.all_eq_true.mp bar_last _ hm
  have hl : (w ++ "x").cps.toList.getLast? = some 120 := by
    have e : (w ++ "x").cps.toList = w.cps.toList ++ [120] := by
      show (w.cps ++ ("x" : Str).cps).toList = _
      rw [Array.toList_append]
      rfl
    rw [e, List.getLast?_append]
    rfl
  rw [hl] at h1
  have h2 : w ++ "x" = ("x" : Str) := by simpa using h1
  have h3 := congrArg Str.length h2
  rw [Str.length_append] at h3
  have e1 : ("x" : Str).length = 1 := rfl
  omega
theorem zz_free {w v : Str} : w ++ ("zz" ++ v) ∉ barS := fun hm => by
  have h1 := List.all_eq_true.mp bar_noz _ hm
  have e : (w ++ ("zz" ++ v)).cps.toList = w.cps.toList ++ ([122, 122] ++ v.cps.toList) := by
    show (w.cps ++ (("zz" : Str).cps ++ v.cps)).toList = _
    rw [Array.toList_append, Array.toList_append]
    rfl
  rw [e] at h1
  simp at h1
end Fp

/-! repr of data: calls that know that no repr runs around them -/
namespace Fp
open PySem PySem.Spec PyProof.Rows L2
/-- room, and no repr around -/
structure RoomG (k : Nat) (A : Around) : Prop where
  r : Room k A
  g : A.guards = some []
theorem RoomG.mono {j k : Nat} {A : Around} (h : RoomG k A) (l : j ≤ k) : RoomG j A := ⟨h.r.mono l, h.g⟩
theorem RoomG.deep {k : Nat} {A : Around} (h : RoomG (k + 1) A) (env : Env) : RoomG k (A.deeper env) := ⟨h.r.deeper env, h.g⟩
/-- FnOk, asked only where no repr runs -/
structure FnG (P : Program) (w : World) (K : PySem.W.Frag) (mg : Str → Option Value) (base : Heap) (CX : CXT) (k : Nat) (f : Addr) (fd : FuncData) (ps : List Str) (sp : Sp) : Prop where
  same : ∀ vs H Q E, sp vs H Q E → vs.length = ps.length
  go : ∀ (A : Around) (outer : List Env) (s : Shared) (H : Hp) (args : Args) (us : List Value) (vs : List V) (Q : VK) (E : XK),
    RoomG k A → Env0 P w K mg base A outer s H → BindsTo s fd args (ps.zip us) → Vals vs us → sp vs H Q E → codeAny (model P w) A (.call (.ref f) args) (CR CX outer P w H s Q E) s
section
variable {P : Program} {w : World} {K : PySem.W.Frag} {mg : Str → Option Value} {base : Heap} {CX : CXT} {k : Nat} {f : Addr} {fd : FuncData} {ps : List Str} {sp : Sp}
theorem FnG.of (F : FnOk P w K mg base CX k f fd ps sp) : FnG P w K mg base CX k f fd ps sp := ⟨F.len, fun A o s H a us vs Q E hr => F.run A o s H a us vs Q E hr.r⟩
theorem FnG.mono {j : Nat} (F : FnG P w K mg base CX j f fd ps sp) (h : j ≤ k) : FnG P w K mg base CX k f fd ps sp := ⟨F.same, fun A o s H a us vs Q E hr => F.go A o s H a us vs Q E (hr.mono h)⟩
/-- a def by its body, which may know that no repr runs around -/
theorem funG {x qual : Str} {st : Stmt} {N : List Str} (F : Fun K x qual st f fd) (S : FnScope N ps (defScope st)) (len : ∀ vs H Q E, sp vs H Q E → vs.length = ps.length)
    (hb : ∀ (cdv : Value) (A : Around) (outer : List Env) (s : Shared) (H : Hp) (vs : List V) (Q : VK) (E : XK), RoomG k (A.deeper (envOfC qual (defScope st) s.heap.objs.size f cdv)) → sp vs H Q E →
      ∃ t, PSs (cxOf CX P w K mg base N qual (defScope st) f cdv A outer s H E) (defBody st) t ∧ t { nx := fun _ H' => Q .non H', rt := Q } (start N vs) H) :
    FnG P w K mg base CX (k + 1) f fd ps sp := by
  obtain ⟨oc, od, kV, doc, pm, an, cdv, ct, osl, rfl, lk, hcd⟩ := F.ex
  refine ⟨len, fun A outer s H args us vs Q E hr e0 bd rv hsp => ?_⟩
  have kin : K.In s.heap := e0.mod.kin.keeps fun b o z => (e0.bs b o z).1
  have nol : s.heap.NoLimit := e0.mod.nolimit.keeps fun b o z => (e0.bs b o z).1
  have kinds : ∀ y ∈ ps.zip us, (defScope st).names.lookup y.1 = some .local ∨ ((defScope st).names.lookup y.1 = some .cell ∧ ((cellsFrom (s.heap.objs.size + 1) (defScope st).names []).lookup y.1).isSome = true) := by
    rintro ⟨n, v⟩ hy
    cases S.par n (List.of_mem_zip hy).1 with
    | inl z => exact .inl z
    | inr z => exact .inr ⟨z, PySem.W.cellsFrom_some _ _ _ (.inl z)⟩
  refine codeAny_call_function hr.r.depth (kin _ _ lk) rfl S.co S.gen rfl (PySem.W.codeRec_of kin hcd) (bd _ _ _ _ (wpAny_newFunctionEnv_cells S.kind kinds fun env he s1 x => ?_))
  cases he
  refine ⟨nol.keeps x.toInCall.keep, codeAny_func ?_⟩
  obtain ⟨t, pt, ht⟩ := hb cdv A outer s H vs Q E (hr.deep _) hsp
  refine wpAny_mono (pt.run [] s1 (start N vs) H _ (inv_start S hr.r.hd e0 (len _ _ _ _ hsp) rv x) ht) ?_ (fun e s' z => z)
  intro fl s' hs
  match fl, hs with
  | .ret u, ⟨v, σ', H', J, r2, q⟩ => exact ⟨v, H', J.os, J.bare, J.base, J.hok, r2, q⟩
  | .next, ⟨σ', H', J, q⟩ => exact ⟨V.non, H', J.os, J.bare, J.base, J.hok, (show RelV V.non Value.none from rfl), q⟩
  | .brk, ⟨_, _, _, q⟩ => exact False.elim q
  | .cont, ⟨_, _, _, q⟩ => exact False.elim q
end
/-- defs of the text, by name -/
def DnG (P : Program) (w : World) (K : PySem.W.Frag) (mg : Str → Option Value) (base : Heap) (k : Nat) (x : Str) (ps : List Str) (sp : Sp) : Prop :=
  ∃ f fd, mg x = some (.ref f) ∧ PySem.W.keepIn K (.ref f) = true ∧ Binds K fd ps [] ∧ FnG P w K mg base CX0 k f fd ps sp
section
variable {X : Cx} {k : Nat} {x : Str} {ps : List Str} {sp : Sp} {p pos : Pos} {e : Expr} {es : List Expr} {t : TA} {f : Addr} {fd : FuncData}
theorem run_fnG {pins : List (Addr × Obj)} {σ : L2.St} {H : Hp} {s : Shared} {Q : VK} {us : List Value} {vs : List V} (F : FnG X.prog X.w X.K X.mg X.base CX0 k f fd ps sp) (hr : RoomG k X.A) (hb : Binds X.K fd ps [])
    (I : Inv X pins σ H s) (r : Vals vs us) (h : sp vs H Q E0) : wpAny (model X.prog X.w) X.A (call (.ref f) us) (EP X pins σ Q) X.xe s := by
  have len2 : us.length = ps.length := by rw [← vals_len r]; exact F.same _ _ _ _ h
  have bd := hb s us I.kIn (by rw [List.append_nil]; exact len2)
  rw [List.append_nil] at bd
  refine wpAny_call (codeAny_mono (F.go X.A X.stack s H ⟨us, []⟩ us vs Q E0 hr I.env0 bd r h) ?_)
  intro res s' hq
  match res, hq with
  | .error _, hq => exact False.elim hq
  | .ok (.ret _), hq => exact I.after hq
theorem pdG (D : DnG X.prog X.w X.K X.mg X.base k x ps sp) (hr : RoomG k X.A) (hg : Gl X x) (ha : PA X (e :: es) t) (hdb : (x == ("__debug__" : Str)) = false := by decide)
    (he : starEach (e :: es) X.env = (false, eval e X.env) :: starEach es X.env := by rfl) (hpl : (backTo pos (starEach es X.env)).any (·.1) = false := by rfl) :
    PE X (.Call (.Name x p) (e :: es) [] pos) (tCall sp [] E0 t) := by
  obtain ⟨f, fd, h1, h2, h3, h4⟩ := D
  refine ⟨fun pins s σ H Q I h => wpAny_Call_Name_kw (ld_glob I hg h1 ?_ hdb)⟩
  refine PySem.W.callWith_K (h₀ := X.base) I.ok.mod.kin h2 (thn (ha.run pos pins s σ H _ I h) ?_) he hpl
  rintro us s1 ⟨vs, H1, I1, r, q⟩
  rw [List.append_nil] at q
  exact ⟨I1.kIn, run_fnG h4 hr h3 I1 r q⟩
/-- repr of data -/
def rReprD (K : PySem.W.Frag) : List V → Hp → VK → Prop := fun xs H Q => ∃ a d, xs = [.ref a] ∧ Dp K H (.ref a) d ∧ d.showable = true ∧ d.hasDict = false ∧ d.depth ≤ 64 ∧ d.shown.length ≤ sizeLine ∧ Q (.str d.shown) H
theorem call_reprD {K : PySem.W.Frag} (hr : RoomG k X.A) (hK : X.K = K := by rfl) : CallR X (.builtin "repr") (rReprD K) := by
  subst hK
  intro pins s σ H xs us Q I r h
  obtain ⟨a, d, rfl, hd, h1, h2, h3, h4, q⟩ := h
  obtain ⟨u, rfl, ru⟩ := vals1 r
  obtain rfl : u = Value.ref a := ru
  obtain ⟨as, rd⟩ := Dp.reads I d (.ref a) _ hd rfl
  have un := hr.r.un
  refine repr_of_reads' rd h1 (PyData.noDict_hsm h2) hr.g (by omega) (fun b o z => z) (fun h' u tk hk => ?_) h4
  exact ⟨.str d.shown, H, I.kept (t' := tk) hk, ⟨u, rfl⟩, q⟩
end
end Fp

/-! the end of a law whose defs know that no repr runs around them; cs: code objects and their tables (none, or some) -/
namespace Fp
open PySem PySem.Spec PyProof.Rows L2
/-- the abstract heap at the law's call: the tables, the script -/
def topH (K : PySem.W.Frag) (a : Addr) (us : Array Value) (ns : List Int) (ts : List Addr) : Hp := fun b =>
  if b ∈ ts then some (.tbl #[]) else if b = a ∧ K.lookup a = none then some (.frz { cls := .type "list", data := .seq us } (.lst (ns.map V.int))) else none
theorem topH_t {K : PySem.W.Frag} {a b : Addr} {us : Array Value} {ns : List Int} {ts : List Addr} (h : b ∈ ts) : topH K a us ns ts b = some (.tbl #[]) := if_pos h
theorem topH_a {K : PySem.W.Frag} {a : Addr} {us : Array Value} {ns : List Int} {ts : List Addr} (h : a ∉ ts) (k : K.lookup a = none) : topH K a us ns ts a = some (.frz { cls := .type "list", data := .seq us } (.lst (ns.map V.int))) := by
  unfold topH
  rw [if_neg h, if_pos ⟨rfl, k⟩]
theorem topH_cases {K : PySem.W.Frag} {a : Addr} {us : Array Value} {ns : List Int} {ts : List Addr} (b : Addr) :
    (b ∈ ts ∧ topH K a us ns ts b = some (.tbl #[])) ∨ (b ∉ ts ∧ b = a ∧ K.lookup a = none ∧ topH K a us ns ts b = some (.frz { cls := .type "list", data := .seq us } (.lst (ns.map V.int)))) ∨ (b ∉ ts ∧ topH K a us ns ts b = none) := by
  by_cases h : b ∈ ts
  · exact .inl ⟨h, if_pos h⟩
  · by_cases h2 : b = a ∧ K.lookup a = none
    · exact .inr (.inl ⟨h, h2.1, h2.2, by unfold topH; rw [if_neg h, if_pos h2]⟩)
    · exact .inr (.inr ⟨h, by unfold topH; rw [if_neg h, if_neg h2]⟩)
section
variable {P : Program} {w : World} {K : PySem.W.Frag} {mg mb : Str → Option Value} {a : Addr} {cs : List (Addr × Addr)} {s : Shared} {us : Array Value} {ns : List Int}
theorem top_env (kin : K.In s.heap) (gl : s.heap.Ns mainGlobals mg) (bl : s.heap.Ns builtinsNs mb) (bb : ∀ x : Str, x ≠ "__name__" → mb x = bootBuiltins x) (nl : s.heap.NoLimit) (ge : s.gens = #[])
    (tab : ∀ p ∈ cs, s.heap.get? p.2 = some { cls := .none, data := .fields #[] }) (ntab : ∀ p ∈ cs, K.lookup p.2 = none) (hd : ∀ p ∈ cs, PySem.W.CodeHd s.heap p.1 p.2)
    (bm : ∃ (m : Addr) (o : Obj), mg "__builtins__" = some (.ref m) ∧ m ≠ builtinsNs ∧ s.heap.get? m = some o ∧ o.cls = .type "module" ∧ o.dict = some builtinsNs ∧ o.data = .plain)
    (sc : s.heap.get? a = some { cls := .type "list", data := .seq us }) (rv : Vals (ns.map V.int) us.toList) (hl : ns.length ≤ sizeLine) :
    ∃ (H : Hp) (base : Heap), K.In base ∧ base.Ns mainGlobals mg ∧ (∀ p ∈ cs, LamX.TabB base mg p.1 p.2) ∧ (∀ p ∈ cs, H p.2 = some (.tbl #[])) ∧ SqL K H a (ns.map V.int) ∧ Env0 P w K mg base callerA [] s H ∧
      ∀ (H' : Hp) (s' : Shared), Un (frs []) [] H H' s.heap s'.heap → HOk P w H' s'.heap → OldK s.heap s'.heap := by
  have usl : us.size = ns.length := by
    have := vals_len rv
    rw [List.length_map, Array.length_toList] at this
    exact this.symm
  let ts := cs.map (·.2)
  have inT : ∀ p ∈ cs, p.2 ∈ ts := fun p hp => List.mem_map_of_mem hp
  have ofT : ∀ b ∈ ts, ∃ p ∈ cs, p.2 = b := fun b hb => List.mem_map.mp hb
  have tabT : ∀ b ∈ ts, s.heap.get? b = some { cls := .none, data := .fields #[] } := fun b hb => by
    obtain ⟨p, hp, rfl⟩ := ofT b hb
    exact tab p hp
  have aT : a ∉ ts := fun z => by
    have q := Option.some.inj (sc.symm.trans (tabT a z))
    have q2 : Data.seq us _ = Data.fields #[] := congrArg Obj.data q
    cases q2
  generalize hH : topH K a us ns ts = H
  have cas : ∀ b, (b ∈ ts ∧ H b = some (.tbl #[])) ∨ (b ∉ ts ∧ b = a ∧ K.lookup a = none ∧ H b = some (.frz { cls := .type "list", data := .seq us } (.lst (ns.map V.int)))) ∨ (b ∉ ts ∧ H b = none) := fun b => hH ▸ topH_cases b
  -- what is neither a list nor a table is not tracked
  have off : ∀ {b : Addr} {o : Obj}, s.heap.get? b = some o → (∀ vs n, o.data ≠ .seq vs n) → o.data ≠ .fields #[] → H b = none := fun {b o} ho h1 h2 => by
    rcases cas b with ⟨h, _⟩ | ⟨_, rfl, _, _⟩ | ⟨_, h⟩
    · rw [tabT b h] at ho
      cases ho
      exact absurd rfl h2
    · rw [sc] at ho
      cases ho
      exact absurd rfl (h1 _ _)
    · exact h
  have keepB : ∀ {b : Addr} {o : Obj}, s.heap.get? b = some o → H b = none → (hidT s.heap H).get? b = some o := fun ho hn => hidT_get ho hn
  have ns2 : ∀ {b : Addr} {m : Str → Option Value}, s.heap.Ns b m → (hidT s.heap H).Ns b m := by
    rintro b m ⟨o, es, ep, ho, hd, r⟩
    exact ⟨o, es, ep, keepB ho (off ho (fun _ _ z => by rw [hd] at z; cases z) (fun z => by rw [hd] at z; cases z)), hd, r⟩
  have kin2 : K.In (hidT s.heap H) := fun b o hb => keepB (kin b o hb) (by
    rcases cas b with ⟨h, _⟩ | ⟨_, rfl, h, _⟩ | ⟨_, h⟩
    · obtain ⟨p, hp, rfl⟩ := ofT b h
      exact absurd ((ntab p hp).symm.trans hb) (by simp)
    · exact absurd (h.symm.trans hb) (by simp)
    · exact h)
  have hok : HOk P w H s.heap := fun b u hb => by
    rcases cas b with ⟨h, e⟩ | ⟨_, rfl, _, e⟩ | ⟨_, e⟩
    · cases Option.some.inj (e.symm.trans hb)
      exact tabT b h
    · cases Option.some.inj (e.symm.trans hb)
      exact ⟨sc, by rw [List.length_map]; exact hl, us.toList, _, rv, sc⟩
    · exact absurd (e.symm.trans hb) (by simp)
  have sq : SqL K H a (ns.map V.int) := by
    cases hk : K.lookup a with
    | none => exact .inl (.inr ⟨{ cls := .type "list", data := .seq us }, by rw [← hH]; exact topH_a aT hk⟩)
    | some o =>
      cases Option.some.inj ((kin a o hk).symm.trans sc)
      exact .inr ⟨_, us, _, hk, rfl, rfl, rfl, by rw [usl]; exact hl, rv⟩
  have glB := ns2 gl
  refine ⟨H, hidT s.heap H, kin2, glB, fun p hp => ?_, fun p hp => ?_, sq, ?_, fun H' s' un hok' => ?_⟩
  · refine ⟨?_, ?_, fun z => ?_⟩
    · obtain ⟨o, vs, file, tf, flags, tg, inF, text, tt, e1, r1, r2, r3, more⟩ := hd p hp
      refine ⟨o, vs, file, tf, flags, tg, inF, text, tt, keepB e1 (off e1 (fun _ _ z => by rw [r2] at z; cases z) fun z => ?_), r1, r2, r3, more⟩
      rw [r2] at z
      cases z
      simp at r3
    · obtain ⟨m, o, b1, b2, b3, b4, b5, b6⟩ := bm
      refine ⟨m, o, b1, b2, fun q => ?_, fun q => ?_, keepB b3 (off b3 (fun _ _ z => by rw [b6] at z; cases z) fun z => by rw [b6] at z; cases z), b4, b5, b6⟩
      · obtain ⟨o', _, _, e, hd', _⟩ := gl
        rw [← q, b3] at e
        cases e
        rw [b6] at hd'
        cases hd'
      · rw [q, tab p hp] at b3
        cases b3
        cases b6
    · obtain ⟨o', _, _, e, hd', _⟩ := gl
      rw [z, tab p hp] at e
      cases e
      cases hd'
  · rw [← hH]
    exact topH_t (inT p hp)
  · obtain ⟨mc, n1, n2⟩ := nl
    exact ⟨rfl, ⟨kin2, glB, ⟨mb, ns2 bl, bb⟩, ⟨mc, ns2 n1, n2⟩⟩, fun b o z => of_hidT z, Nat.le_of_eq (hidT_size _ _), trivial, (fun b hb => absurd (show b ∈ ([] : List Addr) from hb) List.not_mem_nil), hok, .of_eq ge⟩
  · have still : ∀ b o, b ∉ ts → s.heap.get? b = some o → s'.heap.get? b = some o := fun b o nb ho => by
      rcases cas b with ⟨h, _⟩ | ⟨_, rfl, _, e⟩ | ⟨_, e⟩
      · exact absurd h nb
      · have := (hok' b _ (un.frzs b _ _ e)).1
        rw [sc] at ho
        cases ho
        exact this
      · exact un.keep b o ho e (fun z => nomatch z) (fun z => nomatch z)
    have grow : ∀ p ∈ cs, ∃ more : Array Value, s'.heap.get? p.2 = some { cls := .none, data := .fields more } := fun p hp => by
      obtain ⟨more, z⟩ := un.tbls p.2 #[] (by rw [← hH]; exact topH_t (inT p hp))
      exact ⟨_, hok' p.2 _ z⟩
    refine ⟨fun b o ho => ?_, fun b o ho => ?_⟩
    · by_cases hb : b ∈ ts
      · obtain ⟨p, hp, rfl⟩ := ofT b hb
        obtain ⟨more, hm⟩ := grow p hp
        cases Option.some.inj ((tab p hp).symm.trans ho)
        exact .inr (.inl ⟨((hd p hp).tab (tab p hp)).isCodeTable, rfl, #[], more, rfl, by rw [Array.empty_append]; exact hm⟩)
      · exact .inl (still b o hb ho)
    · by_cases hb : b ∈ ts
      · obtain ⟨p, hp, rfl⟩ := ofT b hb
        obtain ⟨more, hm⟩ := grow p hp
        exact ⟨_, hm⟩
      · exact ⟨o, still b o hb ho⟩
end
/-- what is known of the law's promise where it is called -/
def LawG (l : PySem.W.OpenLaw) (w : World) (K : PySem.W.Frag) (k n : Nat) (x : Str) (mg : Str → Option Value) (fa : Addr) (h : Heap) : Prop :=
  ∃ (fd : FuncData) (cs : List (Addr × Addr)) (sp : Sp), (∀ p ∈ cs, h.get? p.2 = some { cls := .none, data := .fields #[] }) ∧ (∀ p ∈ cs, K.lookup p.2 = none) ∧ (∀ p ∈ cs, PySem.W.CodeHd h p.1 p.2) ∧
    (∀ (s : Shared) (v : Value), BindsTo s fd ⟨[v], []⟩ [(x, v)]) ∧
    (∀ (H : Hp) (a : Addr) (ns : List Int), ns.length ≤ n → (∀ z ∈ ns, Builtin.Int.intBits z ≤ 1048576) → (∀ p ∈ cs, H p.2 = some (.tbl #[])) → SqL K H a (ns.map V.int) → sp [.ref a] H (fun v _ => v = .bl true) E0) ∧
    ∀ base : Heap, K.In base → base.Ns mainGlobals mg → (∀ p ∈ cs, LamX.TabB base mg p.1 p.2) → FnG l.prog w K mg base CX0 k fa fd [x] sp
theorem walk_ofG {l : PySem.W.OpenLaw} {n k : Nat} {q : Program} {loose : List Str} {XP : (Str → Option Value) → Heap → Prop} {YP : World → Heap → Prop} {d : DefRec} {K : Params → PySem.W.Frag} {x : Str}
    (hn : l.most = some n) (hn2 : n ≤ sizeLine) (hdf : d.params.defaults = []) (hr : RoomG k callerA) (hY : ∀ (w : World) (h : Heap), YP w h → (K w.params).In h)
    (F : ∀ (w : World) (mg : Str → Option Value) (fa : Addr) (h : Heap), YP w h → (K w.params).In h → h.Ns mainGlobals mg → mg d.name = some (.ref fa) → LawG l w (K w.params) k n x mg fa h) :
    PySem.W.WalkO q loose XP YP l.row.toRowW d [] (fun f vs => PySem.call f vs) := by
  refine Att.attach_callB hn hdf fun w s₀ s mg mb fa o pm cd doc a vs ns G Y ho hd hcd hmg hobj hints hlen hbits hg => ?_
  have kin := hY w _ Y
  obtain ⟨fd, cs, sp, t1, t2, t3, bd, hsp, hF⟩ := F w mg fa _ Y kin G.T.g hmg
  obtain ⟨H, base, e1, e2, e3, e4, e5, e6, e7⟩ := top_env (P := l.prog) (w := w) (us := vs.toArray) (ns := ns) kin G.T.g G.T.b G.T.builtins G.T.nolimit hg t1 t2 t3 G.T.bmain hobj (by simpa using vals_ints hints) (Nat.le_trans hlen hn2)
  refine codeAny_mono ((hF base e1 e2 e3).go callerA [] s H ⟨[.ref a], []⟩ [.ref a] [.ref a] _ _ hr e6 (bd s (.ref a)) (.cons rfl .nil) (hsp H a ns hlen hbits e4 e5)) ?_
  intro res s' hq
  match res, hq with
  | .error _, hq => exact False.elim hq
  | .ok (.ret u), ⟨v, H', os, bare, un, hok', ru, ev⟩ =>
    obtain rfl : v = .bl true := ev
    obtain rfl : u = Value.bool true := ru
    exact ⟨rfl, e7 H' s' un hok', os, bare⟩
end Fp

/-! defs that may raise, class methods, lambdas with captured names, len and bool of own things -/
namespace Fp
open PySem PySem.Spec PyProof.Rows L2 ClX
/-- a def that may raise, by name -/
def De (P : Program) (w : World) (K : PySem.W.Frag) (mg : Str → Option Value) (base : Heap) (k : Nat) (x : Str) (ps : List Str) (sp : Sp) : Prop :=
  ∃ f fd, mg x = some (.ref f) ∧ PySem.W.keepIn K (.ref f) = true ∧ Binds K fd ps [] ∧ FnOk P w K mg base (L2.CX P w) k f fd ps sp
/-- a class whose __init__ may raise; dvs: what its defaults are -/
def Ke (P : Program) (w : World) (K : PySem.W.Frag) (mg : Str → Option Value) (base : Heap) (k : Nat) (C : Addr) (ps : List Str) (dvs : List V) (sp : Sp) : Prop :=
  ∃ g fd ds, Mk K C g ∧ Binds K fd ps [] ∧ Binds K fd ps ds ∧ Vals dvs ds ∧ FnOk P w K mg base (L2.CX P w) k g fd ps sp
/-- a class method of the class at C -/
def Ce (P : Program) (w : World) (K : PySem.W.Frag) (mg : Str → Option Value) (base : Heap) (k : Nat) (C : Addr) (m : Str) (sp : Sp) : Prop :=
  ∃ mc p g, CRead K C mc ∧ CMet K C mc m p g ∧ FnR P w K mg base (L2.CX P w) k g sp
section
variable {X : Cx} {k : Nat} {C : Addr} {x m : Str} {ps : List Str} {dvs : List V} {sp : Sp} {E : XK} {p pos apos : Pos} {e o : Expr} {es : List Expr} {t : TA} {ta : TE} {pl : Sem Bool}
theorem pde (D : De X.prog X.w X.K X.mg X.base k x ps sp) (hr : Room k X.A) (hg : Gl X x) (hx : Passes (L2.CX X.prog X.w) X E) (ha : PA X (e :: es) t) (hdb : (x == ("__debug__" : Str)) = false := by decide)
    (he : starEach (e :: es) X.env = (false, eval e X.env) :: starEach es X.env := by rfl) (hpl : (backTo pos (starEach es X.env)).any (·.1) = false := by rfl) :
    PE X (.Call (.Name x p) (e :: es) [] pos) (tCall sp [] E t) := by
  obtain ⟨f, fd, h1, h2, h3, h4⟩ := D
  exact pe_call h4 hr hg h1 h2 h3 .nil hx ha hdb he hpl
theorem pke (M : Ke X.prog X.w X.K X.mg X.base k C ps dvs sp) (hr : Room (k + 1) X.A) (hg : Gl X x) (hm : X.mg x = some (.ref C)) (hx : Passes (L2.CX X.prog X.w) X E) (ha : PA X (e :: es) t)
    (hdb : (x == ("__debug__" : Str)) = false := by decide) (he : starEach (e :: es) X.env = (false, eval e X.env) :: starEach es X.env := by rfl) (hpl : (backTo pos (starEach es X.env)).any (·.1) = false := by rfl) :
    PE X (.Call (.Name x p) (e :: es) [] pos) (tMake C sp [] E t) := by
  obtain ⟨g, fd, ds, h1, h2, _, _, h3⟩ := M
  exact pe_make h1 h3 hr hg hm h2 .nil hx ha hdb he hpl
theorem pke0 (M : Ke X.prog X.w X.K X.mg X.base k C ps dvs sp) (hr : Room (k + 1) X.A) (hg : Gl X x) (hm : X.mg x = some (.ref C)) (hx : Passes (L2.CX X.prog X.w) X E)
    (hdb : (x == ("__debug__" : Str)) = false := by decide) :
    PE X (.Call (.Name x p) [] [] pos) (tMake C sp dvs E tNil) := by
  obtain ⟨g, fd, ds, h1, _, h2, hd, h3⟩ := M
  exact pe_make0 h1 h3 hr hg hm h2 hd hx hdb
/-- cls(e, ..), cls a name of the def that holds the class at C -/
def tMakeL (C : Addr) (i : Nat) (sp : Sp) (dvs : List V) (E : XK) (t : TA) : TE := fun σ H Q => σ[i]? = some (some (.ref C)) ∧ tMake C sp dvs E t σ H Q
theorem pkl {i : Nat} (M : Ke X.prog X.w X.K X.mg X.base k C ps dvs sp) (hr : Room (k + 1) X.A) (hN : X.N[i]? = some x) (hv : Vis X.env.scope x) (hx : Passes (L2.CX X.prog X.w) X E) (ha : PA X (e :: es) t)
    (hdb : (x == ("__debug__" : Str)) = false := by decide) (hcd : (x == ("__classdict__" : Str)) = false := by decide) (he : starEach (e :: es) X.env = (false, eval e X.env) :: starEach es X.env := by rfl) (hpl : (backTo pos (starEach es X.env)).any (·.1) = false := by rfl) :
    PE X (.Call (.Name x p) (e :: es) [] pos) (tMakeL C i sp [] E t) := by
  obtain ⟨g, fd, ds, h1, h2, _, _, h3⟩ := M
  refine ⟨fun pins s σ H Q I h => ?_⟩
  obtain ⟨hs, ht⟩ := h
  refine wpAny_Call_Name_kw (thn ((pe_var (pos := p) hN hv hdb hcd).run pins s σ H (fun v H1 => v = .ref C ∧ H1 = H) I ⟨.ref C, hs, rfl, rfl⟩) fun u s1 ⟨v, H1, I1, r1, q1⟩ => ?_)
  obtain ⟨rfl, rfl⟩ := q1
  cases r1
  refine PySem.W.callWith_K (h₀ := X.base) I.ok.mod.kin h1.kp (thn (ha.run pos pins s1 σ _ _ I1 ht) fun us s2 ⟨vs, H2, I2, r, q⟩ => ⟨I2.kIn, ?_⟩) he hpl
  exact run_make h1 h3 hr h2 .nil hx I2 r q
theorem pce (M : Ce X.prog X.w X.K X.mg X.base k C m sp) (hr : Room k X.A) (hx : Passes (L2.CX X.prog X.w) X E) (he : PE X o ta) (ha : PA X (e :: es) t)
    (hst : starEach (e :: es) X.env = (false, eval e X.env) :: starEach es X.env := by rfl) (hpl : (backTo pos (starEach es X.env)).any (·.1) = false := by rfl)
    (ht : eval (.Call (.Attribute o m apos) (e :: es) [] pos) X.env = (do
      let ov ← eval o X.env
      standAt apos.atName
      let (f, first) ← holding [ov] (getMethod ov m pl)
      callWith pos f first (backTo pos (starEach (e :: es) X.env)) (backToKw pos (keywordEach [] X.env))) := by rfl) :
    PE X (.Call (.Attribute o m apos) (e :: es) [] pos) (tCMeth C sp E ta t) := by
  obtain ⟨mc, p, g, h1, h2, h3⟩ := M
  exact pe_cmeth he h1 h2 h3 hr hx ha hst hpl ht
theorem pce0 (M : Ce X.prog X.w X.K X.mg X.base k C m sp) (hr : Room k X.A) (hx : Passes (L2.CX X.prog X.w) X E) (he : PE X o ta)
    (ht : eval (.Call (.Attribute o m apos) [] [] pos) X.env = (do
      let ov ← eval o X.env
      standAt apos.atName
      let (f, first) ← holding [ov] (getMethod ov m pl)
      callWith pos f first (backTo pos (starEach [] X.env)) (backToKw pos (keywordEach [] X.env))) := by rfl) :
    PE X (.Call (.Attribute o m apos) [] [] pos) (tCMeth C sp E ta tNil) := by
  obtain ⟨mc, q, g, r, c, F⟩ := M
  refine ⟨fun pins s σ H Q I h => ?_⟩
  refine PySem.W.methodCall_KW (pl := pl) (thn (he.run pins s σ H _ I h) fun u s1 ⟨x, H1, I1, rx, ex, q⟩ => ?_) ht
  subst ex
  obtain rfl : u = Value.ref C := rx
  refine getmethcm_ok I1 r c fun s2 I2 => ?_
  exact PySem.W.callWith_M0 (K := X.K) ⟨pin_at I2, I2.kIn⟩ c.fi (run_cm F hr hx I2 .nil q)
/-! ### len and bool of own things -/
def rOwnLen (C : Addr) (sp : Sp) : List V → Hp → VK → Prop := fun xs H Q => ∃ a dx fs, xs = [.ref a] ∧ H a = some (.ins C dx fs) ∧ sp [.ref a] H (fun v H' => ∃ n : Nat, v = .int n ∧ n < 1000000 ∧ Q (.int n) H') E0
theorem call_ownLen (M : Mn X.prog X.w X.K X.mg X.base k C "__len__" ps sp) (hr : Room (k + 1) X.A) : CallR X (.builtin "len") (rOwnLen C sp) := by
  intro pins s σ H xs us Q I r h
  obtain ⟨a, dx, fs, rfl, ha, q⟩ := h
  obtain ⟨u, rfl, ru⟩ := vals1 r
  obtain rfl : u = Value.ref a := ru
  obtain ⟨g, fd, h1, h2, h3⟩ := M
  obtain ⟨od, J⟩ := inst_of I ha
  obtain ⟨m, hF⟩ := I.fr
  refine PySem.W.len_K hF I.ok.mod.kin J h1.at_ h1.fn ?_
  have F := h3.raw (dvs := []) h2 .nil
  refine wpAny_mono (wpAny_call (SlX.run_at (us := [.ref a]) (ws := [.ref a]) F hr.in1 I.env0.in1 (E := E0) pass0 I (.cons rfl .nil) q)) (fun w s' z => ?_) fun _ _ x => x
  obtain ⟨z', H', I', rz, n, ei, hn, qz⟩ := z
  subst ei
  obtain ⟨t, e⟩ := (show ∃ t, w = Value.int n t from rz)
  subst e
  exact ⟨⟨by omega, by omega⟩, .int n, H', I'.tok _, ⟨_, rfl⟩, qz⟩
theorem bool_in {prog : Program} {w : World} (x : Value) : MeetsIn prog w (Builtin.«bool.__new__» ⟨[.type "bool", x], []⟩) (fun A R s => wpAny (model prog w) A.in1 (truthy x) (fun b s' => R (.ok (.ret (.bool b))) s') (fun e s' => R (.error e) s') s) := by
  intro A R s hs
  have f1 := F.conv_sub_bool
  unfold Builtin.«bool.__new__»
  refine wpAny_bind (m := isType (.type "bool")) (wpAny_of_eq (a := true) rfl ?_)
  refine wpAny_bind (m := isSubtype (.type "bool") (.type "bool")) (wpAny_of_eq (a := true) f1 ?_)
  refine wpAny_bind (m := someArgs "bool" 0 1 { pos := [x] }) (wpAny_of_eq (a := [x]) rfl ?_)
  refine wpAny_bind (wpAny_mono hs (fun b s' q => ?_) fun _ _ z => z)
  exact wpAny_pure q
def rOwnBool (C : Addr) (sp : Sp) : List V → Hp → VK → Prop := fun xs H Q => ∃ a dx fs, xs = [.ref a] ∧ H a = some (.ins C dx fs) ∧ sp [.ref a] H (fun v H' => ∃ b : Bool, v = .bl b ∧ Q (.bl b) H') E0
theorem call_boolAny {x : Value} {prog : Program} {w : World} {A : Around} {Q E : Value → Shared → Prop} {s : Shared} (h : wpAny (model prog w) A.in1.in1 (truthy x) (fun b s' => Q (.bool b) s') E s) : wpAny (model prog w) A (call (.type "bool") [x]) Q E s :=
  callType_newIn F.called_bool F.newNe_bool (F.typeCall_bool_1 x) (F.newCall_bool_1 x) (fun obj => F.args_object_init_2 obj x) F.entry_bool_new (bool_in x) (wpAny_mono h (fun b s' q => ⟨rfl, q⟩) fun _ _ z => z)
theorem call_ownBool (M : Mn X.prog X.w X.K X.mg X.base k C "__bool__" ps sp) (hr : Room (k + 2) X.A) : CallR X (.type "bool") (rOwnBool C sp) := by
  intro pins s σ H xs us Q I r h
  obtain ⟨a, dx, fs, rfl, ha, q⟩ := h
  obtain ⟨u, rfl, ru⟩ := vals1 r
  obtain rfl : u = Value.ref a := ru
  obtain ⟨g, fd, h1, h2, h3⟩ := M
  obtain ⟨od, J⟩ := inst_of I ha
  obtain ⟨m, hF⟩ := I.fr
  have F := h3.raw (dvs := []) h2 .nil
  have hr2 : Room k X.A.in1.in1 := (show Room (k + 1) X.A.in1 from Room.in1 hr).in1
  refine call_boolAny (PySem.W.truthy_K hF I.ok.mod.kin J h1.at_ h1.fn ?_)
  refine wpAny_mono (wpAny_call (SlX.run_at (us := [.ref a]) (ws := [.ref a]) F hr2 I.env0.in1.in1 (E := E0) pass0 I (.cons rfl .nil) q)) (fun w s' z => ?_) fun _ _ x => x
  obtain ⟨z', H', I', rz, b, ei, qz⟩ := z
  subst ei
  obtain rfl : w = Value.bool b := rz
  exact ⟨.bl b, H', I', rfl, qz⟩
/-- bool(a tuple) -/
def rBoolT (K : PySem.W.Frag) : List V → Hp → VK → Prop := fun xs H Q => ∃ a ys, xs = [.ref a] ∧ SqT K H a ys ∧ Q (.bl (!ys.isEmpty)) H
theorem call_boolT {K : PySem.W.Frag} (hK : X.K = K := by rfl) : CallR X (.type "bool") (rBoolT K) := by
  subst hK
  intro pins s σ H xs us Q I r h
  obtain ⟨a, ys, rfl, hq, q⟩ := h
  obtain ⟨u, rfl, ru⟩ := vals1 r
  obtain rfl : u = Value.ref a := ru
  obtain ⟨its, r', pl, hz⟩ := I.tuple hq
  have hlen := r'.length
  have hl := line63
  refine call_boolAny (truthy_tuple pl (by simp only [List.size_toArray]; omega) ?_)
  exact ⟨.bl (!ys.isEmpty), H, I.tok _, by rw [isEmpty_of r']; rfl, q⟩
/-- list(d), d a dict that the top has written -/
def rListKK (K : PySem.W.Frag) : List V → Hp → VK → Prop := fun xs H Q => ∃ d zs, xs = [.ref d] ∧ KKeys K d zs ∧ zs.length ≤ 1000 ∧ ∀ l, H l = none → Q (.ref l) (upd H l (.lst (zs.map V.str)))
theorem call_listKK {K : PySem.W.Frag} (hc : X.calm = true) (hK : X.K = K := by rfl) : CallR X (.type "list") (rListKK K) := by
  subst hK
  intro pins s σ H xs us Q I r h
  obtain ⟨d, zs, rfl, ⟨⟨es, n, hl, hk⟩, low⟩, hz, q⟩ := h
  obtain ⟨u, rfl, ru⟩ := vals1 r
  obtain rfl : u = Value.ref d := ru
  obtain ⟨hs, hat⟩ := KKeys.at (K := X.K) (d := d) (n := n) hk
  have raw : s.heap.DictRaw d es n := ⟨_, I.kIn d _ hl, ⟨rfl, rfl, rfl⟩, rfl⟩
  refine PySem.W.kdl_call (PySem.KdlSrc.rawDict low) (I.ok.hd hc) raw (by rw [sizeLine_eq]; omega) fun h' tk acc c kp e it => ?_
  obtain ⟨i1, i2⟩ := it
  have rv : Vals (zs.map V.str) acc.toList := by
    refine vals_of_at (by simp only [List.length_map, Array.length_toList]; omega) fun j v u hv hu => ?_
    obtain ⟨hj, e1⟩ := i2 j u (by rw [← Array.getElem?_toList]; exact hu)
    obtain ⟨z, t, hz2, hk2⟩ := hat j hj
    rw [List.getElem?_map, hz2] at hv
    cases hv
    exact ⟨t, by rw [e1, hk2]⟩
  have hzl : (zs.map V.str).length ≤ sizeLine := by rw [List.length_map]; exact Nat.le_of_lt (small1000 hz)
  exact ⟨.ref s.heap.objs.size, _, I.laid (t' := tk) kp (Nat.le_refl _) (show ObjOk X.prog X.w _ h' _ (.lst (zs.map V.str)) from ⟨hzl, acc.toList, c, rv, e⟩), rfl, q _ (I.hok.fresh (Nat.le_refl _))⟩
/-! ### x(lambda: ..), the lambda with captured names -/
/-- the def x calls the lambda that it gets; TT: what it makes of the lambda's reading -/
def LcOk (P : Program) (w : World) (K : PySem.W.Frag) (mg : Str → Option Value) (base : Heap) (x : Str) (TT : (XK → Hp → VK → Prop) → Hp → VK → Prop) : Prop :=
  ∃ (g : Addr) (oc : Value) (od : Option Addr) (osl : Array (Option Value)) (pg : Arguments) (bg : List Stmt) (sg : Scope) (dV kV doc pm cdv ct : Value) (an : Option Addr) (Ng : List Str) (a : Str),
    mg x = some (.ref g) ∧ PySem.W.keepIn K (.ref g) = true ∧ K.lookup g = some ⟨oc, od, .func (PySem.W.fnOf x x pg bg sg dV kV doc pm an cdv ct), osl⟩ ∧ PySem.W.codeIn K cdv x = true ∧ Binds K (PySem.W.fnOf x x pg bg sg dV kV doc pm an cdv ct) [a] [] ∧
    FnScope Ng [a] sg ∧ Ng[0]? = some a ∧ Vis sg a ∧ (a == ("__debug__" : Str)) = false ∧ (a == ("__classdict__" : Str)) = false ∧
    ∀ (X : Cx) (q : Str), X.prog = P → X.w = w → X.K = K → X.mg = mg → X.base = base → LamX.GivesTo X Ng x sg g cdv bg a q TT
theorem pe_lcall {T : List (Addr × Str)} {TT : (XK → Hp → VK → Prop) → Hp → VK → Prop} {params : Arguments} {body : Expr} {scope : Scope} {t : XK → TE} {lpos : Pos} (G : LcOk X.prog X.w X.K X.mg X.base x TT) (hg : Gl X x)
    (M : Mak X.base X.mg T X.env.code (X.env.qual ++ "<lambda>")) (hr : Room (k + 2) X.A) (L : LamX.lamSB X.env.scope scope = true) (hdef : defaultsOf params X.env = ([], []))
    (hbind : ∀ (q : Str) (cl : List (Str × Addr)) (pm cv ctv : Value), bindArgs (PySem.W.kla_fn "<lambda>" q params body scope cl pm cv ctv) ⟨[], []⟩ = pure [])
    (hbody : ∀ (A : Around) (outer : List Env) (s : Shared) (H : Hp) (E : XK) (f c' : Addr), Room k (A.deeper (LamX.lamEnv X scope s.heap.objs.size f c')) → PE (LamX.lamCx X A outer s H E scope f c') body (t E))
    (hdb : (x == ("__debug__" : Str)) = false := by decide) :
    PE X (.Call (.Name x p) [.Lambda params body scope lpos] [] pos) (LamX.tLam T TT t) := by
  obtain ⟨g, oc, od, osl, pg, bg, sg, dV, kV, doc, pm, cdv, ct, an, Ng, a, h1, h2, h3, h4, h5, h6, h7, h8, h9, h10, h11⟩ := G
  obtain ⟨c, P, m1, m2, m3, m4⟩ := M.ex
  exact LamX.pe_lamcall hg h1 h2 h3 h4 h5 h6 h7 h8 (h11 X _ rfl rfl rfl rfl rfl) m2 m1 m3 m4 hr (LamX.lamS_by L) hdef hbind hbody hdb h9 h10
end
/-! ### raise C(e): an own class with one attribute -/
def spIN (C : Addr) (f : Str) : Sp := fun vs H Q _ => ∃ a v, vs = [.ref a, v] ∧ H a = some (exo a C none) ∧
  ∀ H' dx, H dx = none → (∀ b o, H b = some o → b ≠ a → H' b = some o) → H' a = some (exo a C (some dx)) → H' dx = some (exd dx [(f, v)]) → Q .non H'
theorem iniN {K : PySem.W.Frag} {FE C a : Addr} {f : Str} {v : V} {H : Hp} {Q : VK} (e : EC K FE C) (nf : PySem.W.findIn K (.ref C) f = some none) (h : H a = some (exo a C none))
    (q : ∀ H' dx, H dx = none → (∀ b o, H b = some o → b ≠ a → H' b = some o) → H' a = some (exo a C (some dx)) → H' dx = some (exd dx [(f, v)]) → Q .non H') :
    tOst K f (tVar 0) (tVar 1) { nx := fun _ H' => Q .non H', rt := Q } [some (.ref a), some v] H :=
  ⟨v, rfl, .ref a, rfl, a, C, rfl, e.oex, nf, .inl ⟨h, fun dx hd hn => q _ dx hd (fun c o hc hne => by rw [upd_ne hne, upd_ne (ne_of_none hc hd)]; exact hc) upd_same (by rw [upd_ne hn, upd_same])⟩⟩
/-- the own exception class with the attribute f -/
def Xe (P : Program) (w : World) (K : PySem.W.Frag) (mg : Str → Option Value) (base : Heap) (C : Addr) (f : Str) : Prop :=
  ∃ fI fd, OexC K C ∧ PySem.W.findIn K (.ref C) "__init__" = some (some (.ref fI)) ∧ PySem.W.typeIn K (.ref fI) = some (.type "function") ∧ Binds K fd ["self", f] [] ∧ FnOk P w K mg base CX0 1 fI fd ["self", f] (spIN C f)
def tRaiseN (C : Addr) (f : Str) (te : TE) (W : WX) : TS := fun _ σ H => te σ H fun v H1 => [v].length ≤ 1000 ∧ ∀ a, H1 a = none → spIN C f [.ref a, v] (upd H1 a (exo a C none))
  (fun u H2 => u = .non ∧ ∃ (d : Addr) (fs : List (Str × V)), H2 a = some (exo a C (some d)) ∧ H2 d = some (exd d fs) ∧ H1 d = none ∧ W (.ref C) (some d) σ (upd (del H2 a) d (.xd fs))) (fun _ _ _ => False)
theorem ps_raiseN {X : Cx} {C : Addr} {f x : Str} {W : WX} {e : Expr} {te : TE} {p pos pos' : Pos} (M : Xe X.prog X.w X.K X.mg X.base C f) (hr : Room 2 X.A) (hg : Gl X x) (hm : X.mg x = some (.ref C)) (hc : X.calm = true) (tk : Takes X W) (he : PE X e te)
    (hdb : (x == ("__debug__" : Str)) = false := by decide) (hst : starEach [e] X.env = (false, eval e X.env) :: starEach [] X.env := by rfl) :
    PS X (.Raise (some (.Call (.Name x p) [e] [] pos)) none pos') (tRaiseN C f te W) := by
  obtain ⟨fI, fd, T, iC, tI, hb, F1⟩ := M
  exact ps_raise (pos := pos') hc tk (pmk_oex (p := p) (pos := pos) T iC tI F1 hr hb .nil pass0 hg hm (pa_cons he pa_nil (hs := hst)) hdb hst rfl)
theorem raiseN_go {C : Addr} {f : Str} {v : V} {W : WX} {σ : L2.St} {H : Hp} (q : ∀ d H', H d = none → Same H H' → H' d = some (.xd [(f, v)]) → W (.ref C) (some d) σ H') :
    [v].length ≤ 1000 ∧ ∀ a, H a = none → spIN C f [.ref a, v] (upd H a (exo a C none))
      (fun u H2 => u = .non ∧ ∃ (d : Addr) (fs : List (Str × V)), H2 a = some (exo a C (some d)) ∧ H2 d = some (exd d fs) ∧ H d = none ∧ W (.ref C) (some d) σ (upd (del H2 a) d (.xd fs))) (fun _ _ _ => False) := by
  refine ⟨(by decide : 1 ≤ 1000), fun a ha => ⟨a, v, rfl, upd_same, fun H2 dx hd k h1 h2 => ⟨rfl, dx, _, h1, h2, ?_, ?_⟩⟩⟩
  · have n : dx ≠ a := fun z => by rw [z, upd_same] at hd; cases hd
    rw [upd_ne n] at hd
    exact hd
  · have n : dx ≠ a := fun z => by rw [z, upd_same] at hd; cases hd
    rw [upd_ne n] at hd
    refine q dx _ hd (fun b o hb => ?_) upd_same
    rw [upd_ne (ne_of_none hb hd), del_ne (ne_of_none hb ha)]
    exact k b o (by rw [upd_ne (ne_of_none hb ha)]; exact hb) (ne_of_none hb ha)
theorem raise_var {C : Addr} {f : Str} {v : V} {W : WX} {D : Ends} {σ : L2.St} {H : Hp} {i : Nat} (h : σ[i]? = some (some v)) (q : ∀ d H', H d = none → Same H H' → H' d = some (.xd [(f, v)]) → W (.ref C) (some d) σ H') : tRaiseN C f (tVar i) W D σ H :=
  ⟨v, h, raiseN_go (W := W) (σ := σ) q⟩
/-- the slots are as many as the names -/
theorem takes_len {X : Cx} {W : WX} (tk : Takes X W) : Takes X (fun cls d σ H => σ.length = X.N.length → W cls d σ H) := fun u s' x => by
  obtain ⟨a, B, sJ, pins, σ, H, cls, d, e, J, nb, up, sky, na, os, ag, h⟩ := x
  exact tk u s' ⟨a, B, sJ, pins, σ, H, cls, d, e, J, nb, up, sky, na, os, ag, h J.len⟩
theorem pss_ex {X : Cx} {b : List Stmt} {α : Sort 1} {Pr : α → Prop} {t : α → TS} (h : ∀ x, Pr x → PSs X b (t x)) : PSs X b (fun D σ H => ∃ x, Pr x ∧ t x D σ H) :=
  ⟨fun pins s σ H D I ⟨x, hp, ht⟩ => (h x hp).run pins s σ H D I ht⟩
/-- a def whose code object is known, no repr around -/
theorem fnG_cd {P : Program} {w : World} {K : PySem.W.Frag} {mg : Str → Option Value} {base : Heap} {x qual : Str} {st : Stmt} {f : Addr} {N ps : List Str} {k : Nat} {sp : Sp} {oc kV doc pm cdv ct : Value} {od an : Option Addr} {osl : Array (Option Value)}
    (lk : K.lookup f = some ⟨oc, od, .func (PySem.W.fnOf x qual (defArgs st) (defBody st) (defScope st) .none kV doc pm an cdv ct), osl⟩) (hcd : PySem.W.codeIn K cdv qual = true) (S : FnScope N ps (defScope st)) (len : ∀ vs H Q E, sp vs H Q E → vs.length = ps.length)
    (hb : ∀ (A : Around) (outer : List Env) (s : Shared) (H : Hp) (vs : List V) (Q : VK) (E : XK), RoomG k (A.deeper (envOfC qual (defScope st) s.heap.objs.size f cdv)) → sp vs H Q E →
      ∃ t, PSs (cxOf CX0 P w K mg base N qual (defScope st) f cdv A outer s H E).nox (defBody st) t ∧ t { nx := fun _ H' => Q .non H', rt := Q } (start N vs) H) :
    FnG P w K mg base CX0 (k + 1) f (PySem.W.fnOf x qual (defArgs st) (defBody st) (defScope st) .none kV doc pm an cdv ct) ps sp := by
  refine ⟨len, fun A outer s H args us vs Q E hr e0 bd rv hsp => ?_⟩
  have kin : K.In s.heap := e0.mod.kin.keeps fun b o z => (e0.bs b o z).1
  have nol : s.heap.NoLimit := e0.mod.nolimit.keeps fun b o z => (e0.bs b o z).1
  have kinds : ∀ y ∈ ps.zip us, (defScope st).names.lookup y.1 = some .local ∨ ((defScope st).names.lookup y.1 = some .cell ∧ ((cellsFrom (s.heap.objs.size + 1) (defScope st).names []).lookup y.1).isSome = true) := by
    rintro ⟨n, v⟩ hy
    cases S.par n (List.of_mem_zip hy).1 with
    | inl z => exact .inl z
    | inr z => exact .inr ⟨z, PySem.W.cellsFrom_some _ _ _ (.inl z)⟩
  refine codeAny_call_function hr.r.depth (kin _ _ lk) rfl S.co S.gen rfl (PySem.W.codeRec_of kin hcd) (bd _ _ _ _ (wpAny_newFunctionEnv_cells S.kind kinds fun env he s1 x => ?_))
  cases he
  refine ⟨nol.keeps x.toInCall.keep, codeAny_func ?_⟩
  obtain ⟨t, pt0, ht⟩ := hb A outer s H vs Q E (hr.deep _) hsp
  have pt := pt0.nox
  refine wpAny_mono (pt.run [] s1 (start N vs) H _ (inv_start S hr.r.hd e0 (len _ _ _ _ hsp) rv x) ht) ?_ (fun e s' z => z)
  intro fl s' hs
  match fl, hs with
  | .ret u, ⟨v, σ', H', J, r2, q⟩ => exact ⟨v, H', J.os, J.bare, J.base, J.hok, r2, q⟩
  | .next, ⟨σ', H', J, q⟩ => exact ⟨V.non, H', J.os, J.bare, J.base, J.hok, (show RelV V.non Value.none from rfl), q⟩
  | .brk, ⟨_, _, _, q⟩ => exact False.elim q
  | .cont, ⟨_, _, _, q⟩ => exact False.elim q
/-- a list changes, the tables stay -/
theorem tabs_lst {T : List (Addr × Str)} {H : Hp} {l : Addr} {xs : List V} {o : HO} (hl : H l = some (.lst xs)) (t : LamX.Tabs T H) : LamX.Tabs T (upd H l o) := fun x hx => by
  obtain ⟨ps, h1, h2, h3⟩ := t x hx
  refine ⟨ps, ?_, h2, fun pos cv hc => ?_⟩
  · rw [upd_ne (ne_of h1 hl (by intro z; cases z))]
    exact h1
  · obtain ⟨c, e1, e2⟩ := h3 pos cv hc
    refine ⟨c, e1, ?_⟩
    rw [upd_ne (ne_of e2 hl ?_)]
    · exact e2
    · intro z
      unfold LamX.CodeO at z
      cases z
end Fp

/-! tables: what the laws about them share -/
namespace Fp
open PySem PySem.Spec PyProof.Rows L2 ClX
mutual
/-- what is no list and no tuple may change -/
theorem Dt.keep {H H' : Hp} (e1 : ∀ b xs, H b = some (.lst xs) → H' b = some (.lst xs)) (e2 : ∀ b xs, H b = some (.tup xs) → H' b = some (.tup xs)) : ∀ {d : PyData} {v : V}, Dt H v d → Dt H' v d
  | .none, _, .non => .non
  | .bool _, _, .bl b => .bl b
  | .int _, _, .int i => .int i
  | .str _, _, .str x => .str x
  | .list ds, _, .lst h t => .lst (e1 _ _ h) (Dts.keep e1 e2 t)
  | .tuple ds, _, .tup h t => .tup (e2 _ _ h) (Dts.keep e1 e2 t)
theorem Dts.keep {H H' : Hp} (e1 : ∀ b xs, H b = some (.lst xs) → H' b = some (.lst xs)) (e2 : ∀ b xs, H b = some (.tup xs) → H' b = some (.tup xs)) : ∀ {ds : List PyData} {vs : List V}, Dts H vs ds → Dts H' vs ds
  | [], _, .nil => .nil
  | _ :: _, _, .cons h t => .cons (Dt.keep e1 e2 h) (Dts.keep e1 e2 t)
end
/-- an instance changes -/
theorem Dt.ins {H H' : Hp} {p C dx : Addr} {fs : List (Str × V)} (hp : H p = some (.ins C dx fs)) (e : ∀ b o, H b = some o → b ≠ p → H' b = some o) {d : PyData} {v : V} (h : Dt H v d) : Dt H' v d :=
  h.keep (fun b xs hb => e b _ hb (ne_of hb hp (by intro z; cases z))) fun b xs hb => e b _ hb (ne_of hb hp (by intro z; cases z))
/-! ### comprehensions whose items are new data -/
theorem del_old {H : Hp} {D : Addr} : Same (del H D) H := fun b o hb => by
  by_cases h : b = D
  · rw [h, del_same] at hb
    cases hb
  · rw [del_ne h] at hb
    exact hb
theorem del_mut {H : Hp} {D : Addr} {o : HO} : del (upd H D o) D = del H D := by
  funext b
  by_cases h : b = D
  · rw [h, del_same, del_same]
  · rw [del_ne h, del_ne h, upd_ne h]
theorem del_mono {H H' : Hp} {D : Addr} (e : Same H H') : Same (del H D) (del H' D) := fun b o hb => by
  by_cases h : b = D
  · rw [h, del_same] at hb
    cases hb
  · rw [del_ne h] at hb ⊢
    exact e b o hb
section
variable {K : PySem.W.Frag} {g : TG} {tt : TT} {te : TE} {vs : List Nat} {σ : L2.St} {H : Hp} {Q : VK} {J : It} {xs : List V} {S : Hp → Prop} {α : Type}
theorem lcg_dt (hJ : JSeq J xs S) (hS : S H) (as : List α) (dat : α → PyData) (hxs : Dts H xs (as.map dat)) (hz : as.length < 100000) (fv : α → PyData)
    (hs : ∀ D x a, a ∈ as → Dt H x (dat a) → ∀ H', Same H H' → H' D ≠ none → ∀ (R1 : V → Hp → Prop) (R0 : Hp → Prop), (∀ v H'', Same H' H'' → Dt (del H'' D) v (fv a) → R1 v H'') →
      g x (wipe σ vs) H' fun σ2 H2 => wipe σ2 vs = wipe σ vs ∧ tt σ2 H2 fun b H3 => if b = true then te σ2 H3 R1 else R0 H3)
    (hd : ∀ D H', H D = none → Same H H' → Dt H' (.ref D) (.list (as.map fv)) → Q (.ref D) H') : LcG J g tt te vs σ H Q := by
  have hlen : xs.length = as.length := by rw [hxs.len, List.length_map]
  refine lcg_by hJ (fun D i acc H' => Same H H' ∧ H' D = some (.lst acc) ∧ Dts (del H' D) acc ((as.take i).map fv)) (fun D hD => ⟨same_new hD, upd_same, .nil⟩)
    (fun D i acc H' _ _ p => hJ.same _ _ hS p.1) (fun D i x acc H' hD hx p => ?_) (fun D acc H' hD p => ?_)
  · obtain ⟨p1, p2, p3⟩ := p
    have hi : i < as.length := hlen ▸ (List.getElem?_eq_some_iff.mp hx).1
    have ha : as[i]? = some as[i] := List.getElem?_eq_getElem hi
    obtain ⟨x', hx', hdx⟩ := hxs.get (i := i) (d := dat as[i]) (by rw [List.getElem?_map, ha]; rfl)
    rw [hx] at hx'
    cases hx'
    have tk : (as.take (i + 1)).map fv = (as.take i).map fv ++ [fv as[i]] := by
      rw [List.take_add_one, ha, List.map_append]
      rfl
    refine hs D x as[i] (List.getElem_mem hi) hdx H' p1 (by rw [p2]; intro z; cases z) _ _ (fun v H'' e hv => ?_)
    refine ⟨acc, e _ _ p2, ?_, acc ++ [v], Same.mut (p1.trans e) hD, upd_same, ?_⟩
    · refine Nat.lt_of_lt_of_le (Nat.lt_of_le_of_lt (?_ : _ ≤ as.length) hz) (by decide)
      rw [p3.len, List.length_map, List.length_take]
      exact Nat.min_le_right _ _
    · rw [tk, del_mut]
      exact (p3.same (del_mono e)).app (.cons hv .nil)
  · obtain ⟨p1, p2, p3⟩ := p
    rw [hlen, List.take_length] at p3
    exact hd D H' hD p1 (.lst p2 (p3.same del_old))
end
theorem dts_rng {H : Hp} {lo : Int} (n : Nat) : Dts H (rngV lo n) ((List.range n).map fun (i : Nat) => PyData.int (lo + i)) := by
  have h : ∀ l : List Nat, Dts H (l.map fun (i : Nat) => V.int (lo + i)) (l.map fun (i : Nat) => PyData.int (lo + i)) := fun l => by
    induction l with
    | nil => exact .nil
    | cons x r ih => exact .cons (.int _) ih
  exact h _
/-- rows of numbers -/
def mD (E : List (List Int)) : PyData := .list (E.map fun r => .list (r.map PyData.int))
def tFl (n : Int) (R : V) : List (Str × V) := putF "_rows" R (putF "size" (.int n) [])
theorem s_sr : ¬ (("size" : Str) = "_rows") := by decide +kernel
theorem tFl_size (n : Int) (R : V) : (tFl n R).lookup ("size" : Str) = some (.int n) := by
  unfold tFl
  rw [lookup_putF, if_neg s_sr, lookup_putF, if_pos rfl]
theorem tFl_rows (n : Int) (R : V) : (tFl n R).lookup ("_rows" : Str) = some R := by
  unfold tFl
  rw [lookup_putF, if_pos rfl]
theorem tFl_no (n : Int) (R : V) (m : Str) (h1 : ¬ m = "_rows") (h2 : ¬ m = "size") : (tFl n R).lookup m = none := by
  unfold tFl
  rw [lookup_putF, if_neg h1, lookup_putF, if_neg h2]
  rfl
theorem tFl_put (n : Int) (R S : V) : putF "_rows" S (tFl n R) = tFl n S := by
  unfold tFl
  have e : ∀ R S : V, putF "_rows" S (putF "_rows" R (putF "size" (.int n) [])) = putF "_rows" S (putF "size" (.int n) []) := fun R S => by rfl
  exact e R S
structure TxT (K : PySem.W.Frag) (mg : Str → Option Value) (C : Addr) : Prop where
  mC : mg "Table" = some (.ref C)
  cl : Cls K C
  nS : NoAttr K C "size"
  nR : NoAttr K C "_rows"
/-- a table stands at t, its rows are E -/
def TbAt (H : Hp) (C t : Addr) (E : List (List Int)) : Prop := ∃ dx R, H t = some (.ins C dx (tFl (E.length : Nat) R)) ∧ Dt H R (mD E)
theorem TbAt.same {H H' : Hp} {C t : Addr} {E : List (List Int)} (h : TbAt H C t E) (e : Same H H') : TbAt H' C t E := by
  obtain ⟨dx, R, h1, h2⟩ := h
  exact ⟨dx, R, e _ _ h1, h2.same e⟩
def OkV (n z : Int) : Prop := 0 ≤ z ∧ z < n
/-- numbers, in a list: all are values of a table of size n, or the first that is none -/
def spCk (K : PySem.W.Frag) (CV : Addr) : Sp := fun vs H Q E => ∃ (l : Addr) (zs : List Int) (n : Int), vs = [.ref l, .int n] ∧ SqL K H l (zs.map V.int) ∧ ((∀ z ∈ zs, OkV n z) → Q .non H) ∧
  (∀ (i : Nat) (z : Int), zs[i]? = some z → ¬ OkV n z → (∀ (j : Nat) (y : Int), j < i → zs[j]? = some y → OkV n y) → ∀ d H', H d = none → Same H H' → H' d = some (.xd [("value", .int z)]) → E (.ref CV) (some d) H')
/-- Table.__init__ -/
def spTI (C CS : Addr) : Sp := fun vs H Q E => ∃ (p dx : Addr) (n : Int), vs = [.ref p, .int n] ∧ H p = some (.ins C dx []) ∧ (1 ≤ n → n ≤ 60 → ∀ H', (∀ b o, H b = some o → b ≠ p → H' b = some o) → (∃ R, H' p = some (.ins C dx (tFl n R)) ∧ Dt H' R (mD (List.replicate n.toNat (List.replicate n.toNat 0)))) → Q .non H') ∧
  (¬ (1 ≤ n ∧ n ≤ 60) → ∀ d H', H d = none → Same H H' → H' d = some (.xd [("size", .int n)]) → E (.ref CS) (some d) H')
/-! ### texts of rows -/
def rJoin (K : PySem.W.Frag) : V → List V → Hp → VK → Prop := fun x xs H Q => ∃ a p, ∃ ys : List Str, x = .str a ∧ xs = [.ref p] ∧ SqL K H p (ys.map V.str) ∧ (ys.map (·.length)).sum + ys.length * a.length ≤ 16777216 ∧ Q (.str (Txt.join a ys)) H
def rSplit : V → List V → Hp → VK → Prop := fun x xs H Q => ∃ a b, x = .str a ∧ xs = [.str b] ∧ (b.length == 0) = false ∧ a.length + 2 ≤ sizeLine ∧ ∀ p, H p = none → Q (.ref p) (upd H p (.lst ((Txt.split a b).map V.str)))
section
variable {X : Cx} {K : PySem.W.Frag} {o e : Expr} {to te : TE} {apos pos : Pos}
theorem pe_joinK (K : PySem.W.Frag) (ho : PE X o to) (he : PE X e te) (hK : X.K = K := by rfl) (hs : starEach [e] X.env = [(false, eval e X.env)] := by rfl) (hbase : attributeBase o "join" X.env (eval o X.env) = eval o X.env := by rfl) (hline : (apos.endLine == pos.line) = true := by rfl) :
    PE X (.Call (.Attribute o "join" apos) [e] [] pos) (tM1 (rJoin K) to te) := by
  subst hK
  refine pe_m1 F.slot_str_join F.type_str_join ?_ ho he hs hbase hline
  intro pins s σ H x xs v us Q I rx rs h
  obtain ⟨a, p, ys, e1, e2, h1, h2, q⟩ := h
  exact mt_join pins s σ H x xs v us Q I rx rs ⟨a, p, ys, e1, e2, .inl h1, h2, q⟩
theorem pe_splitK (ho : PE X o to) (he : PE X e te) (hs : starEach [e] X.env = [(false, eval e X.env)] := by rfl) (hbase : attributeBase o "split" X.env (eval o X.env) = eval o X.env := by rfl) (hline : (apos.endLine == pos.line) = true := by rfl) :
    PE X (.Call (.Attribute o "split" apos) [e] [] pos) (tM1 rSplit to te) := pe_split ho he hs hbase hline
def rStrI : List V → Hp → VK → Prop := fun xs H Q => ∃ i : Int, xs = [.int i] ∧ i.natAbs.log2 < 1920 ∧ Q (.str (Str.ofString (toString i))) H
theorem call_strI : CallR X (.type "str") rStrI := call_str_int
end
def nS (z : Int) : Str := Str.ofString (toString z)
def rowT (r : List Int) : Str := Txt.join " " (r.map nS)
def tabT (E : List (List Int)) : Str := Txt.join "\n" (E.map rowT)
theorem nS_len60 : ∀ n : Nat, n < 100 → (nS (n : Int)).length ≤ 2 := by decide +kernel
theorem nS_len {z : Int} (h : OkV 100 z) : (nS z).length ≤ 2 := by
  obtain ⟨n, rfl⟩ : ∃ n : Nat, z = (n : Int) := ⟨z.toNat, by have := h.1; omega⟩
  exact nS_len60 n (by have := h.2; omega)
theorem sum_le {l : List Nat} {b : Nat} (h : ∀ x ∈ l, x ≤ b) : l.sum ≤ l.length * b := by
  induction l with
  | nil => exact Nat.zero_le _
  | cons x r ih =>
    rw [List.sum_cons, List.length_cons, Nat.succ_mul]
    have h1 := h x List.mem_cons_self
    have h2 := ih fun y hy => h y (List.mem_cons_of_mem _ hy)
    omega
theorem join_le {y : Str} {b : Nat} : ∀ {l : List Str}, (∀ x ∈ l, x.length ≤ b) → (Txt.join y l).length ≤ l.length * (b + y.length)
  | [], _ => by
    show (Txt.join y []).length ≤ _
    rw [TL.join_eq]
    exact Nat.zero_le _
  | a :: r, h => by
    rw [TL.join_eq, len_join_cons]
    have h1 := sum_le (l := (a :: r).map (·.length)) (b := b) fun x hx => by
      obtain ⟨z, hz, rfl⟩ := List.mem_map.mp hx
      exact h z hz
    rw [List.length_map, List.length_cons] at h1
    rw [List.length_cons, Nat.mul_add]
    have h2 : r.length * y.length ≤ (r.length + 1) * y.length := Nat.mul_le_mul_right _ (Nat.le_succ _)
    omega
/-- numbers of a table -/
def OkE (E : List (List Int)) : Prop := E.length ≤ 64 ∧ ∀ r ∈ E, r.length ≤ 64 ∧ ∀ z ∈ r, OkV 100 z
theorem rowT_len {r : List Int} (h : r.length ≤ 64 ∧ ∀ z ∈ r, OkV 100 z) : (rowT r).length ≤ 192 := by
  have h1 := join_le (y := " ") (b := 2) (l := r.map nS) fun x hx => by
    obtain ⟨z, hz, rfl⟩ := List.mem_map.mp hx
    exact nS_len (h.2 z hz)
  have e : (" " : Str).length = 1 := rfl
  rw [List.length_map, e] at h1
  unfold rowT
  have := h.1
  omega
/-- promises of the methods -/
def spWR (C : Addr) : Sp := fun vs H Q _ => ∃ R E, vs = [R] ∧ Dt H R (mD E) ∧ 1 ≤ E.length ∧ E.length ≤ 60 ∧ ∀ (t dx : Addr) H', H t = none → Same H H' → H' t = some (.ins C dx (tFl (E.length : Nat) R)) → Q (.ref t) H'
def spGet (C CV : Addr) : Sp := fun vs H Q E => ∃ (t p : Addr) (M : List (List Int)) (a b : Int), vs = [.ref t, .ref p] ∧ TbAt H C t M ∧ (∀ r ∈ M, r.length = M.length) ∧ H p = some (.tup [.int a, .int b]) ∧
  (∀ (r : List Int) (z : Int) H', OkV M.length a → OkV M.length b → M[a.toNat]? = some r → r[b.toNat]? = some z → Same H H' → Q (.int z) H') ∧
  (∀ z, (¬ OkV M.length a ∧ z = a ∨ OkV M.length a ∧ ¬ OkV M.length b ∧ z = b) → ∀ d H', H d = none → Same H H' → H' d = some (.xd [("value", .int z)]) → E (.ref CV) (some d) H')
def spTStr (C : Addr) : Sp := fun vs H Q _ => ∃ t M, vs = [.ref t] ∧ TbAt H C t M ∧ OkE M ∧ ∀ H', Same H H' → Q (.str (tabT M)) H'
/-! ### o[e], o of an own class with its own `__getitem__` -/
def Ge (P : Program) (w : World) (K : PySem.W.Frag) (mg : Str → Option Value) (base : Heap) (k : Nat) (C : Addr) (ps : List Str) (sp : Sp) : Prop :=
  ∃ g fd, Meth K C "__getitem__" g ∧ PySem.W.fnIn K g = true ∧ Binds K fd ps [] ∧ FnOk P w K mg base (L2.CX P w) k g fd ps sp
def rIxOwn (C : Addr) (sp : Sp) (E : XK) : R2 := fun x y H Q => ∃ c dx fs, x = .ref c ∧ H c = some (.ins C dx fs) ∧ sp [.ref c, y] H Q E
theorem pe_ixOwn {X : Cx} {k : Nat} {C : Addr} {ps : List Str} {sp : Sp} {E : XK} {a b : Expr} {ta tb : TE} {pos : Pos} (M : Ge X.prog X.w X.K X.mg X.base k C ps sp) (hr : Room (k + 1) X.A) (hx : Passes (L2.CX X.prog X.w) X E) (ha : PE X a ta) (hb : PE X b tb)
    (hs : ∀ o i, subscripted b true o i = runValue (.builtin "lifetime.subscript" ⟨[o, i], []⟩)) : PE X (.Subscript a b pos) (tOp (rIxOwn C sp E) ta tb) := by
  refine ⟨fun pins s σ H Q I h => ?_⟩
  refine Subscript_ (binT ha hb I h fun v u s2 x y H2 I2 rx ry q => ?_)
  obtain ⟨c, dx, fs, rfl, hc, q⟩ := q
  obtain rfl : v = Value.ref c := rx
  obtain ⟨g, fd, h1, hfn, h2, h3⟩ := M
  obtain ⟨od, J⟩ := inst_of I2 hc
  obtain ⟨m, hF⟩ := I2.fr
  have F := h3.raw (dvs := []) h2 .nil
  refine PySem.W.sub_K hF I2.ok.mod.kin J h1.at_ hfn h1.fn ?_ (hs _ _)
  exact wpAny_mono (wpAny_call (SlX.run_at (us := [.ref c, u]) (ws := [.ref c, y]) F hr.in1 I2.env0.in1 hx I2 (.cons rfl (.cons ry .nil)) q)) (fun w s' z => z) fun _ _ x => x
/-! ### str of an own thing -/
def rOwnStr (C : Addr) (sp : Sp) : List V → Hp → VK → Prop := fun xs H Q => ∃ a dx fs, xs = [.ref a] ∧ H a = some (.ins C dx fs) ∧ sp [.ref a] H (fun v H' => ∃ z, v = .str z ∧ Q (.str z) H') E0
theorem call_ownStr {X : Cx} {k : Nat} {C : Addr} {ps : List Str} {sp : Sp} (M : Mn X.prog X.w X.K X.mg X.base k C "__str__" ps sp) (hr : Room (k + 2) X.A) : CallR X (.type "str") (rOwnStr C sp) := by
  intro pins s σ H xs us Q I r h
  obtain ⟨a, dx, fs, rfl, ha, q⟩ := h
  obtain ⟨u, rfl, ru⟩ := vals1 r
  obtain rfl : u = Value.ref a := ru
  obtain ⟨g, fd, h1, h2, h3⟩ := M
  obtain ⟨od, J⟩ := inst_of I ha
  have F := h3.raw (dvs := []) h2 .nil
  have hr2 : Room k X.A.in1.in1 := (show Room (k + 1) X.A.in1 from Room.in1 hr).in1
  refine PySem.W.kso_call hr2.units0 I.kIn J h1.at_ h1.fn ?_
  refine wpAny_mono (wpAny_call (SlX.run_at (us := [.ref a]) (ws := [.ref a]) F hr2 I.env0.in1.in1 (E := E0) pass0 I (.cons rfl .nil) q)) (fun w s' z => ?_) fun _ _ x => x
  obtain ⟨z', H', I', rz, b, ei, qz⟩ := z
  subst ei
  obtain ⟨t, e⟩ := (show ∃ t, w = Value.str b t from rz)
  subst e
  exact ⟨.str b, H', I', ⟨_, rfl⟩, qz⟩
/-! ### o[e] = v, o of an own class with its own `__setitem__` -/
def Se (P : Program) (w : World) (K : PySem.W.Frag) (mg : Str → Option Value) (base : Heap) (k : Nat) (C : Addr) (ps : List Str) (sp : Sp) : Prop :=
  ∃ g fd, Meth K C "__setitem__" g ∧ PySem.W.noSeq K C = true ∧ Binds K fd ps [] ∧ FnOk P w K mg base (L2.CX P w) k g fd ps sp
def rSetOwn (C : Addr) (sp : Sp) (E : XK) : V → V → V → Hp → (Hp → Prop) → Prop := fun o i v H Q => ∃ c dx fs, o = .ref c ∧ H c = some (.ins C dx fs) ∧ sp [.ref c, i, v] H (fun _ H' => Q H') E
theorem set_own {X : Cx} {k : Nat} {C : Addr} {ps : List Str} {sp : Sp} {E : XK} (M : Se X.prog X.w X.K X.mg X.base k C ps sp) (hr : Room k X.A) (hx : Passes (L2.CX X.prog X.w) X E) : PSet X (rSetOwn C sp E) := by
  intro pins s σ H o i v ov iv u Q I ro ri rv h
  obtain ⟨c, dx, fs, rfl, hc, q⟩ := h
  obtain rfl : ov = Value.ref c := ro
  obtain ⟨g, fd, h1, hq, h2, h3⟩ := M
  obtain ⟨od, J⟩ := inst_of I hc
  obtain ⟨m, hF⟩ := I.fr
  have F := h3.raw (dvs := []) h2 .nil
  refine PySem.W.ksp_setItem hF I.ok.mod.kin J hq h1.at_ h1.fn ?_
  refine wpAny_mono (wpAny_call (SlX.run_at (us := [.ref c, iv, u]) (ws := [.ref c, i, v]) F hr I.env0 hx I (.cons rfl (.cons ri (.cons rv .nil))) q)) (fun w s' z => ?_) fun _ _ x => x
  obtain ⟨z', H', I', rz, qz⟩ := z
  exact ⟨H', I', qz⟩
end Fp

/-! lines and words -/
namespace Fp
open PySem PySem.Spec PyProof.Rows L2 ClX
/-- plain signs, no newline -/
def chs (l : Str) : Prop := ∀ c ∈ TL.tl l, c < 128 ∧ c ≠ 10
theorem mem_joinL {S : List Nat} : ∀ {ps : List (List Nat)} {p : List Nat} {c : Nat}, p ∈ ps → c ∈ p → c ∈ TL.joinL S ps
  | [x], p, c, hp, hc => by
    rw [List.mem_singleton.mp hp] at hc
    exact hc
  | x :: y :: r, p, c, hp, hc => by
    show c ∈ x ++ (S ++ TL.joinL S (y :: r))
    rcases List.mem_cons.mp hp with rfl | hp
    · exact List.mem_append_left _ hc
    · exact List.mem_append_right _ (List.mem_append_right _ (mem_joinL hp hc))
theorem of_joinL {S : List Nat} : ∀ {ps : List (List Nat)} {c : Nat}, c ∈ TL.joinL S ps → c ∈ S ∨ ∃ p ∈ ps, c ∈ p
  | [], c, h => absurd h (by simp [TL.joinL])
  | [x], c, h => .inr ⟨x, List.mem_singleton.mpr rfl, h⟩
  | x :: y :: r, c, h => by
    have h : c ∈ x ++ (S ++ TL.joinL S (y :: r)) := h
    rcases List.mem_append.mp h with h | h
    · exact .inr ⟨x, List.mem_cons_self, h⟩
    · rcases List.mem_append.mp h with h | h
      · exact .inl h
      · rcases of_joinL h with h | ⟨p, hp, hc⟩
        · exact .inl h
        · exact .inr ⟨p, List.mem_cons_of_mem _ hp, hc⟩
theorem chs_split {l : Str} (h : chs l) {w : Str} (hw : w ∈ Txt.split l " ") : chs w := fun c hc => by
  refine h c ?_
  have e : TL.tl l = TL.joinL (TL.tl " ") ((Txt.split l " ").map TL.tl) := by
    rw [← TL.tl_join, StrLaws.join_split]
  rw [e]
  exact mem_joinL (List.mem_map_of_mem hw) hc
theorem chs_join {ws : List Str} (h : ∀ w ∈ ws, chs w) : chs (Txt.join " " ws) := fun c hc => by
  rw [TL.join_eq, TL.tl_join] at hc
  rcases of_joinL hc with hc | ⟨p, hp, hc⟩
  · have e : TL.tl (" " : Str) = [32] := rfl
    rw [e, List.mem_singleton] at hc
    subst hc
    decide
  · obtain ⟨w, hw, rfl⟩ := List.mem_map.mp hp
    exact h w hw c hc
theorem chs_ok {l : Str} (h : chs l) : OkS l := okS_iff.mpr fun c hc => by
  have := (h c hc).1
  omega
/-- how long its words make a line -/
def jl (ws : List Str) : Nat := (ws.map (·.length)).sum + ws.length
theorem jl_join (ws : List Str) : (Txt.join " " ws).length ≤ jl ws := by
  cases ws with
  | nil => exact Nat.zero_le _
  | cons a r =>
    rw [TL.join_eq, len_join_cons]
    unfold jl
    have e : (" " : Str).length = 1 := rfl
    rw [e, List.length_cons]
    omega
theorem jl_split (l : Str) : jl (Txt.split l " ") = l.length + 1 := by
  have h := StrLaws.join_split l " "
  have hp := split_pos l " "
  cases e : Txt.split l " " with
  | nil => rw [e] at hp; exact absurd hp (by decide)
  | cons a r =>
    rw [e] at h
    have h2 := len_join_cons " " a r
    rw [h] at h2
    have e1 : (" " : Str).length = 1 := rfl
    rw [e1] at h2
    unfold jl
    rw [List.length_cons]
    omega
theorem jl_app (a b : List Str) : jl (a ++ b) = jl a + jl b := by
  unfold jl
  rw [List.map_append, List.sum_append, List.length_append]
  omega
theorem jl_one (w : Str) : jl [w] = w.length + 1 := by
  unfold jl
  simp
theorem jl_take (ws : List Str) (n : Nat) : jl (ws.take n) ≤ jl ws := by
  have h := jl_app (ws.take n) (ws.drop n)
  rw [List.take_append_drop] at h
  omega
theorem jl_drop (ws : List Str) (n : Nat) : jl (ws.drop n) ≤ jl ws := by
  have h := jl_app (ws.take n) (ws.drop n)
  rw [List.take_append_drop] at h
  omega
theorem jl_cut (ws : List Str) (n m : Nat) (h : n ≤ m) : jl (ws.take n) + jl (ws.drop m) ≤ jl ws := by
  have h1 := jl_app (ws.take n) (ws.drop n)
  rw [List.take_append_drop] at h1
  have h2 : ws.drop m = (ws.drop n).drop (m - n) := by
    rw [List.drop_drop]
    congr 1
    omega
  rw [h2]
  have := jl_drop (ws.drop n) (m - n)
  omega
/-- lines as the laws write them -/
structure OkLs (m b : Nat) (ls : List Str) : Prop where
  many : ls.length ≤ m
  each : ∀ l ∈ ls, chs l ∧ l.length ≤ b
theorem nl_join {ls : List Str} (h : ∀ l ∈ ls, chs l) (hne : ls ≠ []) : Txt.split (Txt.join "\n" ls) "\n" = ls :=
  TL.split_join (y := "\n") (s := 10) (S := []) rfl (by decide +kernel) hne fun p hp hc => (h p hp 10 hc).2 rfl
/-- the lines of a text -/
def linesOf (t : Str) : List Str := if t.length = 0 then [] else Txt.split t "\n"
theorem lines_join {ls : List Str} (h : ∀ l ∈ ls, chs l) (h1 : ls ≠ [("" : Str)]) : linesOf (Txt.join "\n" ls) = ls := by
  unfold linesOf
  by_cases he : ls = []
  · subst he
    rw [if_pos (by rw [TL.join_eq]; first | done | rfl)]
  · rw [if_neg, nl_join h he]
    intro hz
    cases ls with
    | nil => exact he rfl
    | cons a r =>
      rw [TL.join_eq, len_join_cons] at hz
      have e1 : ("\n" : Str).length = 1 := rfl
      rw [e1, List.map_cons, List.sum_cons] at hz
      have hr : r = [] := List.length_eq_zero_iff.mp (by omega)
      have ha : a.length = 0 := by omega
      subst hr
      refine h1 ?_
      have : a = ("" : Str) := by
        refine TL.ext_tl ?_
        rw [TL.len_tl] at ha
        rw [List.length_eq_zero_iff.mp ha]
        rfl
      rw [this]
/-! ### which line is wrong -/
def known (n : Nat) : List Str := (List.range n).map fun (k : Nat) => nS (k : Int)
def badL (n i : Nat) (l : Str) : Bool := decide (60 ≤ i) || !decide ((Txt.split l " ").length = n) || !(Txt.split l " ").all fun w => decide (w ∈ known n)
def wrongB (ls : List Str) (i : Nat) : Bool := match ls[i]? with
  | some l => badL ls.length i l
  | none => false
theorem nS_inj : ∀ i : Nat, i < 70 → ∀ j : Nat, j < 70 → nS (i : Int) = nS (j : Int) → i = j := by decide +kernel
theorem nS_chs : ∀ i : Nat, i < 100 → ∀ c ∈ TL.tl (nS (i : Int)), c < 128 ∧ c ≠ 10 := by decide +kernel
/-- good lines are rows of numbers -/
theorem row_of {n : Nat} : ∀ {ws : List Str}, (∀ w ∈ ws, w ∈ known n) → ∃ r : List Int, ws = r.map nS ∧ ∀ z ∈ r, OkV n z
  | [], _ => ⟨[], rfl, fun _ h => nomatch h⟩
  | w :: r, h => by
    obtain ⟨r', e, hr⟩ := row_of (ws := r) fun x hx => h x (List.mem_cons_of_mem _ hx)
    obtain ⟨k, hk, ek⟩ := List.mem_map.mp (h w List.mem_cons_self)
    refine ⟨(k : Int) :: r', by rw [List.map_cons, ← e, ← ek], fun z hz => ?_⟩
    rcases List.mem_cons.mp hz with rfl | hz
    · exact ⟨by omega, by have := List.mem_range.mp hk; omega⟩
    · exact hr z hz
/-! ### enumerate in a loop; dicts made by a comprehension -/
section
variable {K : PySem.W.Frag} {ta : TA} {g : TG} {tb : TS} {D : Ends} {σ : L2.St} {H : Hp} {xs : List V} {a : Addr}
theorem fr_iE : tFor (iEnum K ta) g tb D σ H = ta σ H (fun zs H1 => ∃ a xs, zs = [.ref a] ∧ SqL K H1 a xs ∧ ForG (Ite K a) g tb D σ H1) := rfl
theorem forg_enum (Pv : Nat → L2.St → Hp → Prop) (h0 : Pv 0 σ H) (hP : ∀ i σ' H', i ≤ xs.length → Pv i σ' H' → SqL K H' a xs)
    (hs : ∀ i x σ' H' T, xs[i]? = some x → Pv i σ' H' → H' T = none → g (.ref T) σ' (upd H' T (.tup [.int (i : Nat), x])) fun σ2 H2 => tb { D with nx := Pv (i + 1), ct := Pv (i + 1), bk := D.nx } σ2 H2)
    (hd : ∀ σ' H', Pv xs.length σ' H' → D.nx σ' H') : ForG (Ite K a) g tb D σ H := by
  refine ⟨fun i m σ' H' => m = xs.length - i ∧ i ≤ xs.length ∧ Pv i σ' H', ⟨xs.length, by simp, Nat.zero_le _, h0⟩, ?_⟩
  rintro i m σ' H' ⟨rfl, hi, p⟩
  have hS := hP i σ' H' hi p
  by_cases hlt : i < xs.length
  · refine .inr ⟨⟨xs, xs[i], hS, List.getElem?_eq_getElem hlt⟩, Pv (i + 1), fun σ'' H'' p' => ⟨xs.length - (i + 1), by omega, rfl, hlt, p'⟩, fun x H'' y => ?_⟩
    obtain ⟨T, x', rfl, hT, rfl, hx⟩ := y
    exact hs i x' σ' H' T (hx xs hS) p hT
  · have e : i = xs.length := by omega
    subst e
    exact .inl ⟨⟨xs, hS, Nat.le_refl _⟩, hd σ' H' p⟩
end
def DcG (J : It) (g : TG) (tt : TT) (tk tv : TE) (vs : List Nat) : TE := tDc (fun _ H R => R J H) g tt tk tv vs
section
variable {K : PySem.W.Frag} {ta : TA} {J : It} {g : TG} {tt : TT} {tk tv : TE} {vs : List Nat} {σ : L2.St} {H : Hp} {Q : VK} {xs : List V} {S : Hp → Prop}
theorem dc_iR : tDc (iRng1 ta) g tt tk tv vs σ H Q = ta σ H (fun zs H1 => ∃ j : Int, zs = [.int j] ∧ -(2 ^ 62) ≤ j ∧ j < 2 ^ 62 ∧ DcG (Itr 0 j.toNat) g tt tk tv vs σ H1 Q) := rfl
theorem dcg_by (hJ : JSeq J xs S) (Pv : Addr → Nat → Hp → Prop) (h0 : ∀ D, H D = none → Pv D 0 (upd H D (.dK []))) (hP : ∀ D i H', H D = none → i ≤ xs.length → Pv D i H' → S H')
    (hs : ∀ D i x H', H D = none → xs[i]? = some x → Pv D i H' → g x (wipe σ vs) H' fun σ2 H2 => wipe σ2 vs = wipe σ vs ∧ tt σ2 H2 fun b H3 =>
      if b = true then tk σ2 H3 fun y H4 => tv σ2 H4 fun z H5 => ∃ kvs k, y = kV k ∧ H5 D = some (.dK kvs) ∧ kvs.length < sizeLine ∧ Pv D (i + 1) (upd H5 D (.dK (putK kvs k z))) else Pv D (i + 1) H3)
    (hd : ∀ D H', H D = none → Pv D xs.length H' → Q (.ref D) H') : DcG J g tt tk tv vs σ H Q := by
  intro D hD
  refine ⟨fun i m H' => m = xs.length - i ∧ i ≤ xs.length ∧ Pv D i H', ⟨xs.length, by simp, Nat.zero_le _, h0 D hD⟩, ?_⟩
  rintro i m H' ⟨rfl, hi, p⟩
  have hS := hP D i H' hD hi p
  by_cases hlt : i < xs.length
  · refine .inr ⟨hJ.go i H' hS hlt, Pv D (i + 1), fun H'' p' => ⟨xs.length - (i + 1), by omega, rfl, hlt, p'⟩, fun x H'' y => ?_⟩
    obtain ⟨rfl, hx⟩ := hJ.yld i H' x H'' hS hlt y
    exact hs D i x _ hD hx p
  · have e : i = xs.length := by omega
    subst e
    exact .inl ⟨hJ.stop _ H' hS (Nat.le_refl _), hd D H' hD p⟩
end
/-- the dict from the texts of the first numbers to them -/
def kvsN : Nat → List (Key × V)
  | 0 => []
  | n + 1 => putK (kvsN n) (.inr (nS (n : Int))) (.int (n : Int))
theorem kvsN_len : ∀ n, (kvsN n).length ≤ n
  | 0 => Nat.le_refl _
  | n + 1 => Nat.le_trans (length_putK _ _ _) (Nat.succ_le_succ (kvsN_len n))
theorem kvsN_in (w : Str) : ∀ n, (valV (kvsN n) (Sum.inr w : Key)).isSome = decide (w ∈ known n)
  | 0 => rfl
  | n + 1 => by
    have ih := kvsN_in w n
    have e : known (n + 1) = known n ++ [nS (n : Int)] := by
      unfold known
      rw [List.range_succ, List.map_append]
      rfl
    show (valV (putK (kvsN n) (.inr (nS (n : Int))) (.int (n : Int))) (Sum.inr w : Key)).isSome = _
    rw [valV_put, e]
    by_cases h : w = nS (n : Int)
    · rw [if_pos (by rw [h]), decide_eq_true (List.mem_append_right _ (by rw [h]; exact List.mem_singleton.mpr rfl))]
      rfl
    · rw [if_neg (fun z => h (Sum.inr.inj z)), ih]
      refine decide_eq_decide.mpr ⟨fun z => List.mem_append_left _ z, fun z => ?_⟩
      rcases List.mem_append.mp z with z | z
      · exact z
      · exact absurd (List.mem_singleton.mp z) h
theorem kvsN_at {j : Nat} : ∀ {n : Nat}, j < n → n ≤ 70 → valV (kvsN n) (Sum.inr (nS (j : Int)) : Key) = some (.int (j : Int))
  | n + 1, h, hn => by
    show valV (putK (kvsN n) (.inr (nS (n : Int))) (.int (n : Int))) (Sum.inr (nS (j : Int)) : Key) = _
    rw [valV_put]
    by_cases e : j = n
    · subst e
      rw [if_pos rfl]
    · rw [if_neg (fun z => e (nS_inj j (by omega) n (by omega) (Sum.inr.inj z))), kvsN_at (n := n) (by omega) (by omega)]
def rRepS : R2 := fun x y H Q => ∃ z n, x = .str z ∧ y = .int n ∧ MulOk z n ∧ Q (.str (Txt.mul z n)) H
theorem op_repS {X : Cx} : OpR X (binaryOp .Mult) rRepS := by
  intro pins s σ H x y v u Q I rx ry h
  obtain ⟨z, n, rfl, rfl, hm, q⟩ := h
  obtain ⟨t, rfl⟩ := rx
  obtain ⟨t', rfl⟩ := ry
  exact SB.mul hm fun t' k => ⟨.str _, H, I.tok _, ⟨_, rfl⟩, q⟩
/-! ### slices, sums and tests as data -/
section
variable {K : PySem.W.Frag} {σ : L2.St} {H : Hp} {ta tb te ti : TE} {d e : PyData} {ds : List PyData} {k : Nat}
theorem Dts.take {H : Hp} : ∀ {vs : List V} {ds : List PyData} (n : Nat), Dts H vs ds → Dts H (vs.take n) (ds.take n)
  | _, _, 0, _ => .nil
  | _, _, n + 1, .nil => .nil
  | _, _, n + 1, .cons a b => .cons a (Dts.take n b)
theorem Dts.drop {H : Hp} : ∀ {vs : List V} {ds : List PyData} (n : Nat), Dts H vs ds → Dts H (vs.drop n) (ds.drop n)
  | _, _, 0, h => h
  | _, _, n + 1, .nil => .nil
  | _, _, n + 1, .cons _ b => Dts.drop n b
theorem d_to (h : EvD te σ H (.list ds)) (hi : EvD ti σ H (.int (k : Nat))) : EvD (tSl (rSlL K) te tNoPart (tPart ti)) σ H (.list (ds.take k)) := fun H1 e1 Q q =>
  h H1 e1 _ fun v H2 e2 hv => hi H2 (e1.trans e2) _ fun w H3 e3 hw => by
    cases hw
    obtain ⟨a, xs, rfl, ha, hx⟩ := hv.list
    refine ⟨_, rfl, _, _, rfl, .inl (.inl (e3 _ _ ha)), fun p hp => ?_⟩
    rw [cut_to]
    exact q _ _ (Same.new (e2.trans e3) hp) (.lst upd_same (((hx.take k).same e3).same (same_new hp)))
theorem d_from (h : EvD te σ H (.list ds)) (hi : EvD ti σ H (.int (k : Nat))) : EvD (tSl (rSlL K) te (tPart ti) tNoPart) σ H (.list (ds.drop k)) := fun H1 e1 Q q =>
  h H1 e1 _ fun v H2 e2 hv => hi H2 (e1.trans e2) _ fun w H3 e3 hw => by
    cases hw
    obtain ⟨a, xs, rfl, ha, hx⟩ := hv.list
    refine ⟨_, rfl, _, _, rfl, .inl (.inl (e3 _ _ ha)), fun p hp => ?_⟩
    rw [cut_from]
    exact q _ _ (Same.new (e2.trans e3) hp) (.lst upd_same (((hx.drop k).same e3).same (same_new hp)))
theorem d_add {i j : Int} (ha : EvD ta σ H (.int i)) (hb : EvD tb σ H (.int j)) : EvD (tOp (rI0 fun i j => .int (i + j)) ta tb) σ H (.int (i + j)) := fun H1 e1 Q q =>
  ha H1 e1 _ fun v H2 e2 hv => hb H2 (e1.trans e2) _ fun w H3 e3 hw => by
    cases hv
    cases hw
    exact ⟨_, _, rfl, rfl, q _ _ (e2.trans e3) (.int _)⟩
theorem d_succ (ha : EvD ta σ H (.int (k : Nat))) : EvD (tOp (rI0 fun i j => .int (i + j)) ta (tC (.int 1))) σ H (.int ((k + 1 : Nat) : Int)) := d_add ha d_int
theorem d_at (h : EvD te σ H (.list ds)) (hi : EvD ti σ H (.int (k : Nat))) (hd : ds[k]? = some d) : EvD (tOp (rIxL K) te ti) σ H d := fun H1 e1 Q q =>
  h H1 e1 _ fun v H2 e2 hv => hi H2 (e1.trans e2) _ fun w H3 e3 hw => by
    cases hw
    obtain ⟨a, xs, rfl, ha, hx⟩ := hv.list
    obtain ⟨x, hx1, hx2⟩ := (hx.same e3).get hd
    exact ⟨_, _, _, _, rfl, rfl, .inl (.inl (e3 _ _ ha)), atI_nat hx1, q _ _ (e2.trans e3) hx2⟩
theorem d_join {y : Str} {zs : List Str} (h : EvD te σ H (.list (zs.map .str))) (hl : (zs.map (·.length)).sum + zs.length * y.length ≤ 16777216) : EvD (tM1 (rJoin K) (tC (.str y)) te) σ H (.str (Txt.join y zs)) := fun H1 e1 Q q =>
  ⟨⟨_, rfl⟩, h H1 e1 _ fun v H2 e2 hv => by
    obtain ⟨a, xs, rfl, ha, hx⟩ := hv.list
    obtain rfl := hx.strs
    exact ⟨_, _, _, rfl, rfl, .inl (.inl ha), hl, q _ _ e2 (.str _)⟩⟩
theorem d_rep {i : Int} (h : EvD te σ H (.list ds)) (hi : EvD ti σ H (.int i)) (h1 : ds.length * i.toNat ≤ 1000) (h2 : -(2 ^ 63) ≤ i) (h3 : i < 2 ^ 63) : EvD (tOp rRep te ti) σ H (.list (List.replicate i.toNat ds).flatten) := fun H1 e1 Q q =>
  h H1 e1 _ fun v H2 e2 hv => hi H2 (e1.trans e2) _ fun w H3 e3 hw => by
    cases hw
    cases hv with
    | lst ha hx =>
      refine ⟨_, _, _, rfl, rfl, e3 _ _ ha, h2, h3, Nat.le_of_lt (small1000 (by rw [hx.len]; exact h1)), fun p hp => ?_⟩
      refine q _ _ (Same.new (e2.trans e3) hp) (.lst upd_same ?_)
      have r : ∀ n : Nat, Dts H3 (List.replicate n _).flatten (List.replicate n ds).flatten := fun n => by
        induction n with
        | zero => exact .nil
        | succ n ih =>
          rw [List.replicate_succ, List.replicate_succ, List.flatten_cons, List.flatten_cons]
          exact (hx.same e3).app ih
      exact (r _).same (same_new hp)
theorem d_eqI {i j : Int} (ha : EvD ta σ H (.int i)) (hb : EvD tb σ H (.int j)) : EvD (tOp rEq ta tb) σ H (.bool (decide (i = j))) := fun H1 e1 Q q =>
  ha H1 e1 _ fun v H2 e2 hv => hb H2 (e1.trans e2) _ fun w H3 e3 hw => by
    cases hv
    cases hw
    refine ⟨rfl, ?_⟩
    rw [show decide (V.int i = V.int j) = decide (i = j) from decide_eq_decide.mpr ⟨fun z => V.int.inj z, fun z => by rw [z]⟩]
    exact q _ _ (e2.trans e3) (.bl _)
theorem d_intB {b : Bool} (h : EvD te σ H (.bool b)) : EvD (tCB rIntB (tCons te tNil)) σ H (.int (if b then 1 else 0)) := fun H1 e1 Q q =>
  h H1 e1 _ fun v H2 e2 hv => by
    cases hv
    exact ⟨_, rfl, q _ _ e2 (.int _)⟩
theorem if_lt {i : Nat} {z n : Int} {a b : TS} {D : Ends} (h : σ[i]? = some (some (.int z))) (h1 : z < n → a D σ H) (h2 : ¬ z < n → b D σ H) : tIfS (tTest (tOp (rI0 fun i j => .bl (decide (i < j))) (tVar i) (tC (.int n)))) a b D σ H :=
  ⟨_, h, _, _, rfl, rfl, _, rfl, ite2 (fun k => h1 (of_decide_eq_true k)) (fun k => h2 fun z => k (decide_eq_true z))⟩
theorem if_eq {i : Nat} {z n : Int} {a b : TS} {D : Ends} (h : σ[i]? = some (some (.int z))) (h1 : z = n → a D σ H) (h2 : ¬ z = n → b D σ H) : tIfS (tTest (tOp rEq (tVar i) (tC (.int n)))) a b D σ H :=
  ⟨_, h, rfl, _, rfl, ite2 (fun k => h1 (V.int.inj (of_decide_eq_true k))) (fun k => h2 fun z => k (decide_eq_true (by rw [z])))⟩
end
/-! ### int of a text; comprehensions that draw -/
def rIntS : List V → Hp → VK → Prop := fun xs H Q => ∃ a n, xs = [.str a] ∧ PySem.intText? a = some n ∧ a.length ≤ 640 ∧ Q (.int n) H
theorem call_intS {X : Cx} : CallR X (.type "int") rIntS := call_int_str
theorem nS_int : ∀ i : Nat, i < 100 → PySem.intText? (nS (i : Int)) = some (i : Int) := by decide +kernel
theorem But.del {p D : Addr} {H H' : Hp} (e : But p H H') (hp : H p ≠ none) (h : p ≠ D) : But p (del H D) (del H' D) := ⟨fun b o hb n => by
  by_cases z : b = D
  · rw [z, del_same] at hb
    cases hb
  · rw [del_ne z] at hb ⊢
    exact e.1 b o hb n, fun hn => by
  rw [del_ne h]
  exact e.2 hp⟩
section
variable {g : TG} {tt : TT} {te : TE} {vs : List Nat} {σ : L2.St} {H : Hp} {Q : VK}
theorem lcg_pen {p c : Addr} {t m n : Nat} (hP : PenOk H p c t) (hn : n < 100000) (good : PyData → Prop)
    (hs : ∀ D i H', i < n → But p H H' → PenOk H' p c (t + m * i) → H' D ≠ none → p ≠ D → ∀ (R1 : V → Hp → Prop) (R0 : Hp → Prop), (∀ v d H'', good d → But p H' H'' → PenOk H'' p c (t + m * (i + 1)) → Dt (del H'' D) v d → R1 v H'') →
      g (.int (0 + (i : Int))) (wipe σ vs) H' fun σ2 H2 => wipe σ2 vs = wipe σ vs ∧ tt σ2 H2 fun b H3 => if b = true then te σ2 H3 R1 else R0 H3)
    (hd : ∀ D H' ds, H D = none → ds.length = n → (∀ d ∈ ds, good d) → But p H H' → PenOk H' p c (t + m * n) → Dt H' (.ref D) (.list ds) → Q (.ref D) H') : LcG (Itr 0 n) g tt te vs σ H Q := by
  obtain ⟨kv0, hp0⟩ := hP.dict
  refine lcg_by (jseq_rng 0 n) (fun D i acc H' => But p H H' ∧ PenOk H' p c (t + m * i) ∧ H' D = some (.lst acc) ∧ acc.length = i ∧ ∃ ds : List PyData, ds.length = i ∧ (∀ d ∈ ds, good d) ∧ Dts (del H' D) acc ds)
    (fun D hD => ⟨But.of (same_new hD), (hP.same (same_new hD)).mono (by omega), upd_same, rfl, [], rfl, (fun _ h => nomatch h), .nil⟩)
    (fun D i acc H' _ _ _ => trivial) (fun D i x acc H' hD hx q => ?_) (fun D acc H' hD q => ?_)
  · obtain ⟨b1, P1, h1, l1, ds, l2, gd, hds⟩ := q
    have hi : i < n := by
      have := (List.getElem?_eq_some_iff.mp hx).1
      rw [rngV_len] at this
      exact this
    obtain rfl : x = .int (0 + (i : Int)) := by rw [rngV_at hi] at hx; cases hx; rfl
    have npD : p ≠ D := fun z => by rw [← z, hp0] at hD; cases hD
    refine hs D i H' hi b1 P1 (by rw [h1]; intro z; cases z) npD _ _ (fun v d H'' hg b2 P2 hv => ?_)
    obtain ⟨kv1, hp1⟩ := P1.dict
    have h2 := b2.1 _ _ h1 npD.symm
    refine ⟨acc, h2, ?_, acc ++ [v], ?_, ?_, upd_same, by rw [List.length_append, l1]; rfl, ds ++ [d], by rw [List.length_append, l2]; rfl, fun x hx => ?_, ?_⟩
    · have big : 100000 ≤ sizeLine := by decide
      omega
    · exact (b1.trans b2).mut hD
    · obtain ⟨cells, tu, le, k1, k2, k3, k4, k5⟩ := P2.ex
      have nc : c ≠ D := fun z => by
        obtain ⟨_, _, _, _, k2', _⟩ := hP.ex
        rw [z, hD] at k2'
        cases k2'
      exact ⟨cells, tu, le, by rw [upd_ne npD]; exact k1, by rw [upd_ne nc]; exact k2, k3, k4, k5⟩
    · rcases List.mem_append.mp hx with hx | hx
      · exact gd x hx
      · rw [List.mem_singleton.mp hx]
        exact hg
    · rw [del_mut]
      exact (hds.but (kvs := kv1) (by rw [del_ne npD]; exact hp1) (b2.del (by rw [hp1]; intro z; cases z) npD)).app (.cons hv .nil)
  · obtain ⟨b1, P1, h1, l1, ds, l2, gd, hds⟩ := q
    rw [rngV_len] at l2 P1
    exact hd D H' ds hD l2 gd b1 P1 (.lst h1 (hds.same del_old))
end
end Fp

set_option maxHeartbeats 1000000
/-! x(lambda: ..) once more: nothing but the tables of code objects that are named may change -/
namespace Fp
open PySem PySem.Spec PyProof.Rows L2 LamX NdefX
/-- the table P of the code object c: which name is at which place -/
structure MakN (base : Heap) (mg : Str → Option Value) (T : List NTab) (cd : Value) (nm : Nat → Nat → Str) : Prop where
  ex : ∃ c P, cd = .ref c ∧ TabB base mg c P ∧ (P, nm) ∈ T ∧ ∀ p ∈ T, p.1 = P → p.2 = nm
def ExtB (T : List NTab) (H H' : Hp) : Prop := (∀ b o, H b = some o → b ∉ T.map (·.1) → H' b = some o) ∧ ∀ b, H b ≠ none → H' b ≠ none
theorem ExtB.refl (T : List NTab) (H : Hp) : ExtB T H H := ⟨fun _ _ h _ => h, fun _ h => h⟩
theorem tabs_code {T : List NTab} {H H' : Hp} (t : ∀ p ∈ T, ∃ ps : Array Value, H' p.1 = some (.tbl ps) ∧ TriplesOk ps.toList ∧ ∀ (pos : Pos) (cv : Value), codeAmong pos ps.toList = some cv → ∃ c, cv = .ref c ∧ (H c = some (CodeO c (p.2 pos.line pos.col)) ∨ H' c = some (CodeO c (p.2 pos.line pos.col))))
    (e : ∀ c q, H c = some (CodeO c q) → H' c = some (CodeO c q)) : TabsN T H' := fun p hp => by
  obtain ⟨ps, a1, a2, a3⟩ := t p hp
  refine ⟨ps, a1, a2, fun pos cv z => ?_⟩
  obtain ⟨c, e1, e2⟩ := a3 pos cv z
  exact ⟨c, e1, e2.elim (e c _) id⟩
section
variable {X : Cx} {pins : List (Addr × Obj)} {σ : L2.St} {H : Hp} {s : Shared}
theorem lamB {T : List NTab} {params : Arguments} {body : Expr} {scope : Scope} {pos : Pos} {E Q : Value → Shared → Prop} (I : Inv X pins σ H s) {nm : Nat → Nat → Str} (M : MakN X.base X.mg T X.env.code nm) (hn : nm pos.line pos.col = X.env.qual ++ "<lambda>") (hT : TabsN T H) (hdef : defaultsOf params X.env = ([], []))
    (hfree : ∀ y ∈ scope.names, y.2 = .free → ∃ c, X.env.cells.lookup y.1 = some c)
    (q : ∀ (f c' : Addr) (pm ctv : Value) (H1 : Hp) (s' : Shared), Inv X pins σ H1 s' → ExtB T H H1 → TabsN T H1 → s'.heap.get? f = some (PySem.W.kla_obj "<lambda>" (X.env.qual ++ "<lambda>") params body scope (cloFrom X.env.cells scope.names []) pm c' ctv) →
      H1 f = none → f ∉ frs X.stack → H1 c' = some (CodeO c' (X.env.qual ++ "<lambda>")) → Q (.ref f) s') : wpAny (model X.prog X.w) X.A (eval (.Lambda params body scope pos) X.env) Q E s := by
  obtain ⟨c, P, hcode, TB, hm, hu⟩ := M.ex
  obtain ⟨ps, hP, ht, ha⟩ := hT _ hm
  have inT : P ∈ T.map (·.1) := List.mem_map.mpr ⟨_, hm, rfl⟩
  have gP : s.heap.get? P = some { cls := .none, data := .fields ps } := I.hok P _ hP
  have bP : s.heap.BuiltinsAt X.mg P := TB.bm.keeps I.bk
  have fresh_ : ∀ {f : Addr}, s.heap.objs.size ≤ f → f ∉ frs X.stack := fun {f} hf z => (List.mem_cons.mp (I.stkSub _ z)).elim (fun e => by
    have h1 := I.lt
    rw [← e] at h1
    exact Nat.lt_irrefl _ (Nat.lt_of_lt_of_le h1 hf)) fun e => I.nofs hf e
  refine PySem.W.kla_eval hdef ?_
  cases hc : codeAmong pos ps.toList with
  | some cv =>
    obtain ⟨c', e, hco⟩ := ha pos cv hc
    subst e
    have hco : H c' = some (CodeO c' (nm pos.line pos.col)) := hco
    rw [hn] at hco
    refine PySem.W.kla_makeFunctionHit (mg := X.mg) (c := c) (P := P) (ps := ps) (closure_ok hfree) I.ok.glob (I.mod.glob.keeps I.bk) hcode (TB.code.keeps I.bk) gP ht hc bP fun ctv h' tk hx hsz => ?_
    exact q _ c' _ ctv H _ (I.kept fun b o e => Heap.get?_push_of_some _ (hx b o e)) (ExtB.refl T H) hT (Heap.get?_push_size _ rfl) (I.hok.fresh hsz) (fresh_ hsz) hco
  | none =>
    refine PySem.W.kla_makeFunction (mg := X.mg) (c := c) (P := P) (ps := ps) (closure_ok hfree) I.ok.glob (I.mod.glob.keeps I.bk) hcode (TB.code.keeps I.bk) gP ht hc TB.gP bP fun c' ctv h' tk hx hge hlt hrec htb => ?_
    obtain ⟨c2, oc, vs, t, e2, hoc, hd, hv⟩ := hrec
    cases e2
    have far : s.heap.objs.size ≤ h'.objs.size := Nat.le_trans hge (Nat.le_of_lt hlt)
    have nC : H c' = none := I.hok.fresh hge
    have I1 := inv_table (q := X.env.qual ++ "<lambda>") (t' := tk) (more := #[rawInt pos.line, rawInt pos.col, .ref c'])
      (h' := h'.push (PySem.W.kla_obj "<lambda>" (X.env.qual ++ "<lambda>") params body scope (cloFrom X.env.cells scope.names []) ((X.mg "__name__").getD .none) c' ctv)) I hP (fun b o hb e => Heap.get?_push_of_some _ (hx b o hb e))
      (Heap.get?_push_of_some _ htb) hge ⟨oc, vs, t, Heap.get?_push_of_some _ hoc, hd, hv⟩
    generalize hH1 : upd (upd H P (.tbl (ps ++ #[rawInt pos.line, rawInt pos.col, .ref c']))) c' (CodeO c' (X.env.qual ++ "<lambda>")) = H1 at I1
    have at1 : ∀ b, b ≠ P → b ≠ c' → H1 b = H b := fun b n1 n2 => by rw [← hH1, upd_ne n2, upd_ne n1]
    have atP : H1 P = some (.tbl (ps ++ #[rawInt pos.line, rawInt pos.col, .ref c'])) := by rw [← hH1, upd_ne (ne_of_none hP nC), upd_same]
    have atC : H1 c' = some (CodeO c' (X.env.qual ++ "<lambda>")) := by rw [← hH1, upd_same]
    have keep : ∀ b o, H b = some o → b ≠ P → H1 b = some o := fun b o e n => by rw [at1 b n (ne_of_none e nC)]; exact e
    have code : ∀ d q, H d = some (CodeO d q) → H1 d = some (CodeO d q) := fun d q e => keep d _ e fun z => by
      rw [z, hP] at e
      exact codeO_ne ps (Option.some.inj e).symm
    refine q h'.objs.size c' _ ctv H1 _ I1 ⟨fun b o e n => keep b o e fun z => n (z ▸ inT), fun b n z => ?_⟩ (tabs_code (fun p hp => ?_) code) (Heap.get?_push_size _ rfl) ?_ (fresh_ far) atC
    · by_cases h1 : b = P
      · rw [h1, atP] at z; cases z
      · by_cases h2 : b = c'
        · rw [h2, atC] at z; cases z
        · rw [at1 b h1 h2] at z; exact n z
    · by_cases hb : p.1 = P
      · rw [hu p hp hb, hb]
        have eL : (ps ++ #[rawInt pos.line, rawInt pos.col, .ref c']).toList = ps.toList ++ [rawInt pos.line, rawInt pos.col, .ref c'] := by simp
        refine ⟨_, atP, eL ▸ PySem.TriplesOk_snoc _ _ _ _ ht, fun p' cv z => ?_⟩
        rw [eL] at z
        rcases among_app2 _ ht z with z | ⟨z, z2, z3⟩
        · obtain ⟨c0, e1, e2⟩ := ha p' cv z
          exact ⟨c0, e1, .inl e2⟩
        · exact ⟨c', z, .inr (by show H1 c' = some (CodeO c' (nm p'.line p'.col)); rw [← z2, ← z3, hn]; exact atC)⟩
      · obtain ⟨ps', a1, a2, a3⟩ := hT p hp
        refine ⟨ps', keep _ _ a1 hb, a2, fun p' cv z => ?_⟩
        obtain ⟨c0, e1, e2⟩ := a3 p' cv z
        exact ⟨c0, e1, .inl e2⟩
    · rw [at1 _ (Nat.ne_of_gt (Nat.lt_of_lt_of_le (Heap.lt_size gP) far)) (Nat.ne_of_gt hlt)]
      exact I.hok.fresh far
end
/-- .. the promise: what the def makes of the lambda's reading, told of the heap with the tables grown -/
def tLamB (T : List NTab) (TT : (XK → Hp → VK → Prop) → Hp → VK → Prop) (t : XK → TE) : TE := fun σ H Q => TabsN T H ∧ ∀ H1, ExtB T H H1 → TabsN T H1 → TT (fun E H' Q' => t E σ H' Q') H1 Q
theorem pe_lcallB {X : Cx} {x : Str} {p pos : Pos} {k : Nat} {T : List NTab} {TT : (XK → Hp → VK → Prop) → Hp → VK → Prop} {params : Arguments} {body : Expr} {scope : Scope} {t : XK → TE} {lpos : Pos} (G : LcOk X.prog X.w X.K X.mg X.base x TT) (hg : Gl X x)
    {nm : Nat → Nat → Str} (M : MakN X.base X.mg T X.env.code nm) (hn : nm lpos.line lpos.col = X.env.qual ++ "<lambda>") (hr : Room (k + 2) X.A) (L : lamSB X.env.scope scope = true) (hdef : defaultsOf params X.env = ([], []))
    (hbind : ∀ (q : Str) (cl : List (Str × Addr)) (pm cv ctv : Value), bindArgs (PySem.W.kla_fn "<lambda>" q params body scope cl pm cv ctv) ⟨[], []⟩ = pure [])
    (hbody : ∀ (A : Around) (outer : List Env) (s : Shared) (H : Hp) (E : XK) (f c' : Addr), Room k (A.deeper (lamEnv X scope s.heap.objs.size f c')) → PE (lamCx X A outer s H E scope f c') body (t E))
    (hdb : (x == ("__debug__" : Str)) = false := by decide) :
    PE X (.Call (.Name x p) [.Lambda params body scope lpos] [] pos) (tLamB T TT t) := by
  obtain ⟨g, oc, od, osl, pg, bg, sg, dV, kV, doc, pm, cdv, ct, an, Ng, a, hm, hk, lk, hcg, hb, Sg, hNg, hva, hd, hcd, h11⟩ := G
  have L' := lamS_by L
  refine ⟨fun pins s σ H Q I h => ?_⟩
  obtain ⟨hT, h⟩ := h
  refine wpAny_Call_Name_kw (ld_glob I hg hm ?_ hdb)
  refine PySem.W.callWith_K (h₀ := X.base) I.ok.mod.kin hk ?_ (by rfl) (by rfl)
  show wpAny _ _ (spliced ((false, eval (.Lambda params body scope lpos) X.env) :: backTo pos (starEach [] X.env))) _ _ s
  refine Calls.spliced_cons (lamB I M hn hT hdef (L'.has I.ok) fun f c' pm' ctv H1 s' I1 eB T1 hf hfn hfr hco => Calls.spliced_nil ⟨I1.kIn, ?_⟩)
  refine wpAny_call (codeAny_mono (run_ofS (CX := C8.CX0) (E := C8.E0) (Q := Q) (N := Ng) (ps := [a]) (us := [.ref f]) (vs := [.ref f]) lk hcg Sg hr I1.env0 (hb s' [.ref f] I1.kIn rfl) (.cons rfl .nil) rfl fun hr' => ?_) fun r s2 hq => ?_)
  · obtain ⟨t', ht', hq'⟩ := (h11 X _ rfl rfl rfl rfl rfl) f c' s' H1 Q (fun E H' Q' => t E σ H' Q') (fun W pn xe E p1 p2 tk hW => pe_act (i := 0) I1 L' hf hfn hfr (hbind _ _ _ _ _) tk hW hr' (fun A outer s H hr2 => hbody A outer s H E f c' hr2) hNg hva hd hcd) hco (h H1 eB T1)
    exact ⟨t', ht'.nox, hq'⟩
  · cases r with
    | error e => exact (show False from hq).elim
    | ok fl =>
      cases fl with
      | ret u => exact I1.after hq
      | next => exact False.elim hq
      | brk => exact False.elim hq
      | cont => exact False.elim hq
end Fp

set_option maxHeartbeats 1000000
/-! sorted(x, key=int), x whole numbers -/
namespace Fp
open PySem PySem.Spec PyProof.Rows L2
theorem objOk_there {P : Program} {w : World} {H : Hp} {h : Heap} {a : Addr} {o : HO} (x : ObjOk P w H h a o) : ∃ u, h.get? a = some u := by
  cases o with
  | lst xs => obtain ⟨_, _, _, _, e⟩ := x; exact ⟨_, e⟩
  | tup xs => obtain ⟨_, _, _, o, e, _⟩ := x; exact ⟨_, e⟩
  | dK kvs => obtain ⟨_, _, _, _, o, _, _, e, _⟩ := x; exact ⟨_, e⟩
  | dT kvs => obtain ⟨_, _, _, _, o, _, _, e, _⟩ := x; exact ⟨_, e⟩
  | set S n => obtain ⟨o, _, _, _, e, _⟩ := x; exact ⟨_, e⟩
  | ins C dx fs => obtain ⟨_, _, _, e, _⟩ := x; exact ⟨_, e⟩
  | own y => exact x
  | xd fs => obtain ⟨_, ⟨_, _, _, e, _⟩, _⟩ := x; exact ⟨_, e⟩
  | rng lo hi => obtain ⟨_, _, _, e⟩ := x; exact ⟨_, e⟩
  | frz ob u => obtain ⟨e, _⟩ := x; exact ⟨_, e⟩
  | tbl ps => exact ⟨_, (show h.get? a = some _ from x)⟩
  | met f y => exact ⟨_, (show h.get? a = some _ from x)⟩
  | ext φ => obtain ⟨_, e, _⟩ := x; exact e
theorem ns_same {h : Heap} {L : Addr} {m m' : Str → Option Value} (a : h.Ns L m) (b : h.Ns L m') : m = m' := by
  obtain ⟨o, es, ep, h1, h2, _, h3⟩ := a
  obtain ⟨o', es', ep', g1, g2, _, g3⟩ := b
  rw [h1] at g1
  cases g1
  rw [h2] at g2
  cases g2
  funext x
  rw [← h3 x, g3 x]
def rSortedKI (K : PySem.W.Frag) : List V → List V → Hp → VK → Prop := fun vs zs H Q => ∃ (a : Addr) (ns : List Int), vs = [V.ref a] ∧ zs = [.ty "int"] ∧ SqL K H a (ns.map V.int) ∧ ns.length < 64 ∧
  ∀ (ns' : List Int) (p : Addr), ns'.Perm ns → ns'.Pairwise (· ≤ ·) → H p = none → Q (.ref p) (upd H p (.lst (ns'.map V.int)))
theorem zip_ints {its : List Value} {ns : List Int} (h : IntsAre its ns) : ∀ p ∈ ns.zip its, ∃ t, p.2 = Value.int p.1 t := by
  induction h with
  | nil => intro p hp; cases hp
  | cons k t _ ih =>
    intro p hp
    rcases List.mem_cons.mp hp with rfl | hp
    · exact ⟨_, rfl⟩
    · exact ih p hp
theorem cr_sortedKeyInt {X : Cx} : CallRK X (.builtin "sorted") [Str.ofString "key"] (rSortedKI X.K) := by
  intro pins s σ H vs zs us ws Q I r rz h
  obtain ⟨a, ns, rfl, rfl, hs, h64, q⟩ := h
  obtain rfl := Vals.ref1 r
  obtain ⟨w1, rfl, e1⟩ := vals1 rz
  obtain rfl : w1 = Value.type "int" := e1
  obtain ⟨its, rv, hl, hz⟩ := I.list hs
  have hi : IntsAre its ns := rv.ints
  have hlen : ns.length = its.length := by rw [← rv.length, List.length_map]
  obtain ⟨m, F⟩ := I.fr
  let news : List (Addr × Obj) := (List.range s.heap.objs.size).filterMap fun b => if b = X.env.locals ∨ (X.base.get? b).isSome then none else (s.heap.get? b).map fun o => (b, o)
  have inN : ∀ b o, s.heap.get? b = some o → b ≠ X.env.locals → X.base.get? b = none → (b, o) ∈ news := fun b o e n1 n2 => List.mem_filterMap.mpr ⟨b, List.mem_range.mpr (Heap.lt_size e), by rw [if_neg (by rw [n2]; simpa using n1), e]; rfl⟩
  have N : News X.base X.env.locals s.heap news := fun p hp => by
    obtain ⟨b, hb, e⟩ := List.mem_filterMap.mp hp
    by_cases c : b = X.env.locals ∨ (X.base.get? b).isSome
    · rw [if_pos c] at e; cases e
    · rw [if_neg c] at e
      obtain ⟨o, ho, rfl⟩ := Option.map_eq_some_iff.mp e
      refine ⟨ho, fun w => c (.inl w), ?_⟩
      cases g : X.base.get? b with
      | none => rfl
      | some u => exact absurd (.inr (by rw [g]; rfl)) c
  refine ksk_sorted (kz := ns) (f := .type "int") (b := false) F N hl.isList hlen (by omega) (ksk_s1 _ _) (fun _ => ksk_l1 _ _) (fun x => rfl) (fun i v k hv hk h tk own F' N' => ?_) fun D h' tk out c F' N' hlt hout => ?_
  · obtain ⟨t, rfl⟩ : ∃ t, v = Value.int k t := zip_ints hi (k, v) (List.mem_of_getElem? (i := i) (by rw [List.getElem?_zip_eq_some]; exact ⟨hk, hv⟩))
    exact call_int_int ⟨h, tk, t, rfl, rfl, F', N'⟩
  · obtain ⟨ps, pp, po, pw⟩ := hout
    obtain ⟨gD, nL, nB⟩ := N' _ List.mem_cons_self
    have nD : s.heap.get? D = none := by
      cases e : s.heap.get? D with
      | none => rfl
      | some o => exact absurd (hlt _ (inN D o e nL nB)) (Nat.lt_irrefl _)
    have hD : H D = none := by
      cases e : H D with
      | none => rfl
      | some u =>
        obtain ⟨o, ho⟩ := objOk_there (I.hok D u e)
        rw [nD] at ho
        cases ho
    have keep : ∀ b o, b ≠ X.env.locals → s.heap.get? b = some o → h'.get? b = some o := fun b o n e => by
      cases g : X.base.get? b with
      | none => exact (N' _ (List.mem_cons_of_mem _ (inN b o e n g))).1
      | some u =>
        have h1 := F'.keep b u g
        have h2 := F.keep b u g
        rw [e] at h2
        cases h2
        exact h1
    have pz : ∀ p ∈ ps, ∃ t, p.2 = Value.int p.1 t := fun p hp => zip_ints hi p (pp.mem_iff.mp hp)
    have hperm : (ps.map Prod.fst).Perm ns := by
      have := pp.map Prod.fst
      rwa [List.map_fst_zip (by omega)] at this
    have vals : Vals ((ps.map Prod.fst).map V.int) out.toList := by
      rw [po]
      clear po pw pp hperm
      induction ps with
      | nil => exact .nil
      | cons x r ih =>
        obtain ⟨t, e⟩ := pz x List.mem_cons_self
        exact .cons ⟨t, e⟩ (ih fun p hp => pz p (List.mem_cons_of_mem _ hp))
    have hsz : ((ps.map Prod.fst).map V.int).length ≤ sizeLine := by
      rw [List.length_map, hperm.length_eq]
      rw [List.length_map] at hz
      exact hz
    have at_ : ∀ b u, H b = some u → upd H D (.lst ((ps.map Prod.fst).map V.int)) b = some u := fun b u e => by rw [upd_ne (ne_of_none e hD)]; exact e
    have ht : ∀ b o, s.heap.get? b = some o → b ≠ D := fun b o e w => by rw [w, nD] at e; cases e
    refine ⟨.ref D, upd H D (.lst ((ps.map Prod.fst).map V.int)), I.step (g' := s.gens) (d' := s.drawn) (ch := []) (fun b hb => absurd hb (by simp)) (fun b o n _ _ e _ => keep b o n e) (fun b o n _ _ e _ => ⟨o.slots, keep b o n e⟩)
      (fun b o _ e n => by rw [upd_ne (ht b o e)]; exact n) (fun b o _ e => ?_) (fun b xs e => at_ b _ e) (fun b o u e => at_ b _ e) (fun b qs e => ⟨#[], by rw [at_ b _ e]; simp⟩) (fun m' hn => ?_) (fun b u e => ?_) I.bare, rfl, q _ D hperm ?_ hD⟩
    · by_cases n : b = X.env.locals
      · obtain ⟨o', _, _, e', _⟩ := F'.ns
        exact ⟨o', by rw [n]; exact e'⟩
      · exact ⟨o, keep b o n e⟩
    · rw [ns_same hn F.ns]
      exact F'.ns
    · by_cases hb : b = D
      · rw [hb, upd_same] at e
        cases e
        rw [hb]
        exact ⟨hsz, out.toList, c, vals, by rw [Array.toArray_toList]; exact gD⟩
      · rw [upd_ne hb] at e
        have nl : ∀ d, (∃ u, H d = some u) → d ≠ X.env.locals := fun d ⟨u, hu⟩ w => by
          have := I.free
          rw [w, this] at hu
          cases hu
        refine (I.hok b u e).stay (fun d v hd q => keep d v ?_ q) (fun d q => at_ d _ q) fun d xs q => at_ d _ q
        rcases hd with z | z
        · exact nl d ⟨u, by rw [z]; exact e⟩
        · exact nl d ⟨_, z⟩
    · rw [List.pairwise_map]
      exact pw.imp fun h => by simpa using h
end Fp

/-! data without the heap: what a def's names hold, as data; what is read, as data -/
namespace Fd
open PySem PySem.Spec PyProof.Rows L2 Fp
/-! ### the heap without what may change -/
abbrev Zs := Addr → Bool
def hid (Z : Zs) (H : Hp) : Hp := fun a => if Z a = true then none else H a
theorem hid_in {Z : Zs} {H : Hp} {a : Addr} {o : HO} (h : H a = some o) (z : Z a = false) : hid Z H a = some o := by
  unfold hid
  rw [if_neg (by rw [z]; decide)]
  exact h
theorem of_hid {Z : Zs} {H : Hp} {a : Addr} {o : HO} (h : hid Z H a = some o) : H a = some o ∧ Z a = false := by
  unfold hid at h
  by_cases z : Z a = true
  · rw [if_pos z] at h
    cases h
  · rw [if_neg z] at h
    exact ⟨h, by simpa using z⟩
theorem hid_sub {Z Z' : Zs} {H H' : Hp} (h : ∀ a o, H a = some o → Z a = false → H' a = some o ∧ Z' a = false) : Same (hid Z H) (hid Z' H') := fun a o e => by
  obtain ⟨e1, z⟩ := of_hid e
  obtain ⟨e2, z2⟩ := h a o e1 z
  exact hid_in e2 z2
theorem hid_out {Z : Zs} {H : Hp} : Same (hid Z H) H := fun a o e => (of_hid e).1
theorem same_rd {H H' : Hp} {a : Addr} {u : HO} (e : Same H H') (h : Rd H a u) : Rd H' a u := by
  rcases h with h | ⟨o, h⟩
  · exact .inl (e _ _ h)
  · exact .inr ⟨o, e _ _ h⟩
/-! ### data -/
def iD (C : Addr) (kvs : List (PyData × PyData)) : PyData := .dict ((.none, .int (C : Nat)) :: kvs)
def stD (a : Addr) : PyData := .dict [(.bool true, .int (a : Nat))]
def keyD : Key → PyData
  | .inl i => .int i
  | .inr x => .str x
def keysD (k : List Key) : PyData := .tuple (k.map keyD)
mutual
inductive Dv (K : PySem.W.Frag) (H : Hp) : V → PyData → Prop
  | non : Dv K H .non .none
  | bl (b : Bool) : Dv K H (.bl b) (.bool b)
  | int (i : Int) : Dv K H (.int i) (.int i)
  | str (x : Str) : Dv K H (.str x) (.str x)
  | lst {a : Addr} {xs : List V} {ds : List PyData} : H a = some (.lst xs) → Dvs K H xs ds → Dv K H (.ref a) (.list ds)
  | tup {a : Addr} {xs : List V} {ds : List PyData} : SqT K H a xs → Dvs K H xs ds → Dv K H (.ref a) (.tuple ds)
  | ins {a C dx : Addr} {fs : List (Str × V)} {kvs : List (PyData × PyData)} : H a = some (.ins C dx fs) → Dvf K H fs kvs → Dv K H (.ref a) (.dict ((.none, .int (C : Nat)) :: kvs))
  | st (a : Addr) : Dv K H (.ref a) (.dict [(.bool true, .int (a : Nat))])
  | dk {a : Addr} {kvs : List (Key × V)} {es : List (PyData × PyData)} : H a = some (.dK kvs) → Dvk K H kvs es → Dv K H (.ref a) (.dict ((.none, .none) :: es))
inductive Dvs (K : PySem.W.Frag) (H : Hp) : List V → List PyData → Prop
  | nil : Dvs K H [] []
  | cons {v : V} {vs : List V} {d : PyData} {ds : List PyData} : Dv K H v d → Dvs K H vs ds → Dvs K H (v :: vs) (d :: ds)
inductive Dvf (K : PySem.W.Frag) (H : Hp) : List (Str × V) → List (PyData × PyData) → Prop
  | nil : Dvf K H [] []
  | cons {f : Str} {v : V} {fs : List (Str × V)} {d : PyData} {kvs : List (PyData × PyData)} : Dv K H v d → Dvf K H fs kvs → Dvf K H ((f, v) :: fs) ((.str f, d) :: kvs)
inductive Dvk (K : PySem.W.Frag) (H : Hp) : List (Key × V) → List (PyData × PyData) → Prop
  | nil : Dvk K H [] []
  | cons {k : Key} {v : V} {kvs : List (Key × V)} {d : PyData} {es : List (PyData × PyData)} : Dv K H v d → Dvk K H kvs es → Dvk K H ((k, v) :: kvs) ((keyD k, d) :: es)
end
section
variable {K : PySem.W.Frag} {H H' : Hp}
theorem Dv.same (e : Same H H') {v : V} {d : PyData} (h : Dv K H v d) : Dv K H' v d :=
  Dv.rec (motive_1 := fun v d _ => Dv K H' v d) (motive_2 := fun v d _ => Dvs K H' v d) (motive_3 := fun v d _ => Dvf K H' v d) (motive_4 := fun v d _ => Dvk K H' v d)
    .non .bl .int .str (fun h _ ih => .lst (e _ _ h) ih) (fun h _ ih => .tup (same_tup e h) ih) (fun h _ ih => .ins (e _ _ h) ih) .st (fun h _ ih => .dk (e _ _ h) ih) .nil (fun _ _ a b => .cons a b) .nil (fun _ _ a b => .cons a b) .nil (fun _ _ a b => .cons a b) h
theorem Dvs.same (e : Same H H') {v : List V} {d : List PyData} (h : Dvs K H v d) : Dvs K H' v d := by
  induction d generalizing v with
  | nil => cases h; exact .nil
  | cons x r ih =>
    cases h with
    | cons a b => exact .cons (a.same e) (ih b)
theorem Dvf.same (e : Same H H') {v : List (Str × V)} {d : List (PyData × PyData)} (h : Dvf K H v d) : Dvf K H' v d := by
  induction d generalizing v with
  | nil => cases h; exact .nil
  | cons x r ih =>
    cases h with
    | cons a b => exact .cons (a.same e) (ih b)
theorem Dvk.same (e : Same H H') {v : List (Key × V)} {d : List (PyData × PyData)} (h : Dvk K H v d) : Dvk K H' v d := by
  induction d generalizing v with
  | nil => cases h; exact .nil
  | cons x r ih =>
    cases h with
    | cons a b => exact .cons (a.same e) (ih b)
theorem Dvs.len : ∀ {ds : List PyData} {vs : List V}, Dvs K H vs ds → vs.length = ds.length
  | _, _, .nil => rfl
  | _, _, .cons _ t => by rw [List.length_cons, List.length_cons, Dvs.len t]
theorem Dvs.app : ∀ {ds es : List PyData} {vs ws : List V}, Dvs K H vs ds → Dvs K H ws es → Dvs K H (vs ++ ws) (ds ++ es)
  | _, _, _, _, .nil, s => s
  | _, _, _, _, .cons h t, s => .cons h (Dvs.app t s)
theorem Dvs.get : ∀ {ds : List PyData} {vs : List V} {i : Nat} {d : PyData}, Dvs K H vs ds → ds[i]? = some d → ∃ v, vs[i]? = some v ∧ Dv K H v d
  | _, _, i, d, .nil, h => by simp at h
  | _, _, 0, d, .cons h t, e => by cases e; exact ⟨_, rfl, h⟩
  | _, _, i + 1, d, .cons h t, e => Dvs.get (i := i) t e
theorem Dvs.getV : ∀ {ds : List PyData} {vs : List V} {i : Nat} {v : V}, Dvs K H vs ds → vs[i]? = some v → ∃ d, ds[i]? = some d ∧ Dv K H v d
  | _, _, i, d, .nil, h => by simp at h
  | _, _, 0, d, .cons h t, e => by cases e; exact ⟨_, rfl, h⟩
  | _, _, i + 1, d, .cons h t, e => Dvs.getV (i := i) t e
theorem Dvs.set : ∀ {ds : List PyData} {vs : List V} {i : Nat} {v : V} {d : PyData}, Dvs K H vs ds → Dv K H v d → Dvs K H (vs.set i v) (ds.set i d)
  | _, _, i, v, d, .nil, h => .nil
  | _, _, 0, v, d, .cons h t, e => .cons e t
  | _, _, i + 1, v, d, .cons h t, e => .cons h (Dvs.set (i := i) t e)
theorem Dvs.erase : ∀ {ds : List PyData} {vs : List V} (i : Nat), Dvs K H vs ds → Dvs K H (vs.eraseIdx i) (ds.eraseIdx i)
  | _, _, _, .nil => .nil
  | _, _, 0, .cons _ t => t
  | _, _, i + 1, .cons h t => .cons h (Dvs.erase i t)
theorem Dvs.take : ∀ {vs : List V} {ds : List PyData} (n : Nat), Dvs K H vs ds → Dvs K H (vs.take n) (ds.take n)
  | _, _, 0, _ => .nil
  | _, _, n + 1, .nil => .nil
  | _, _, n + 1, .cons a b => .cons a (Dvs.take n b)
theorem Dvs.drop : ∀ {vs : List V} {ds : List PyData} (n : Nat), Dvs K H vs ds → Dvs K H (vs.drop n) (ds.drop n)
  | _, _, 0, h => h
  | _, _, n + 1, .nil => .nil
  | _, _, n + 1, .cons _ b => Dvs.drop n b
theorem Dvs.rev {vs : List V} {ds : List PyData} (h : Dvs K H vs ds) : Dvs K H vs.reverse ds.reverse := by
  induction ds generalizing vs with
  | nil => cases h; exact .nil
  | cons x r ih =>
    cases h with
    | cons a b =>
      rw [List.reverse_cons, List.reverse_cons]
      exact (ih b).app (.cons a .nil)
theorem Dvs.rep {vs : List V} {ds : List PyData} (h : Dvs K H vs ds) : ∀ n : Nat, Dvs K H (List.replicate n vs).flatten (List.replicate n ds).flatten
  | 0 => .nil
  | n + 1 => by
    rw [List.replicate_succ, List.replicate_succ, List.flatten_cons, List.flatten_cons]
    exact h.app (h.rep n)
theorem Dvs.ints : ∀ {zs : List Int} {vs : List V}, Dvs K H vs (zs.map PyData.int) → vs = zs.map V.int
  | [], _, .nil => rfl
  | z :: r, _, .cons (.int _) t => by rw [Dvs.ints t]; rfl
theorem Dvs.strs : ∀ {zs : List Str} {vs : List V}, Dvs K H vs (zs.map PyData.str) → vs = zs.map V.str
  | [], _, .nil => rfl
  | z :: r, _, .cons (.str _) t => by rw [Dvs.strs t]; rfl
theorem Dvs.bools : ∀ {zs : List Bool} {vs : List V}, Dvs K H vs (zs.map PyData.bool) → vs = zs.map V.bl
  | [], _, .nil => rfl
  | z :: r, _, .cons (.bl _) t => by rw [Dvs.bools t]; rfl
theorem dvs_ints : ∀ zs : List Int, Dvs K H (zs.map V.int) (zs.map PyData.int)
  | [] => .nil
  | z :: r => .cons (.int z) (dvs_ints r)
theorem dvs_strs : ∀ zs : List Str, Dvs K H (zs.map V.str) (zs.map PyData.str)
  | [] => .nil
  | z :: r => .cons (.str z) (dvs_strs r)
theorem Dv.num {v : V} {z : Int} (h : Dv K H v (.int z)) : v = .int z := by cases h; rfl
theorem Dv.txt {v : V} {z : Str} (h : Dv K H v (.str z)) : v = .str z := by cases h; rfl
theorem Dv.bool {v : V} {z : Bool} (h : Dv K H v (.bool z)) : v = .bl z := by cases h; rfl
theorem Dv.none' {v : V} (h : Dv K H v .none) : v = .non := by cases h; rfl
theorem Dv.list {v : V} {ds : List PyData} (h : Dv K H v (.list ds)) : ∃ a xs, v = .ref a ∧ H a = some (.lst xs) ∧ Dvs K H xs ds := by
  cases h with
  | lst h1 t1 => exact ⟨_, _, rfl, h1, t1⟩
theorem Dv.tuple {v : V} {ds : List PyData} (h : Dv K H v (.tuple ds)) : ∃ a xs, v = .ref a ∧ SqT K H a xs ∧ Dvs K H xs ds := by
  cases h with
  | tup h1 t1 => exact ⟨_, _, rfl, h1, t1⟩
theorem Dv.inst {v : V} {C : Addr} {kvs : List (PyData × PyData)} (h : Dv K H v (iD C kvs)) : ∃ a dx fs, v = .ref a ∧ H a = some (.ins C dx fs) ∧ Dvf K H fs kvs := by
  unfold iD at h
  generalize hd : PyData.dict ((.none, .int (C : Nat)) :: kvs) = d at h
  cases h with
  | ins h1 t1 =>
    rename_i C' _ _ _
    injection hd with hd
    injection hd with h0 h2
    injection h0 with _ h0
    injection h0 with h0
    obtain rfl : C = C' := Int.ofNat.inj h0
    subst h2
    exact ⟨_, _, _, rfl, h1, t1⟩
  | st a => injection hd with hd; injection hd with h0 _; injection h0 with h0 _; cases h0
  | dk _ _ => injection hd with hd; injection hd with h0 _; injection h0 with _ h0; cases h0
  | _ => cases hd
/-- a dict with the keys that are ints and texts -/
def dkD (es : List (PyData × PyData)) : PyData := .dict ((.none, .none) :: es)
theorem keyD_inj {a b : Key} (h : keyD a = keyD b) : a = b := by
  cases a <;> cases b <;> first | (injection h with h; rw [h]) | cases h
theorem Dv.dict {v : V} {es : List (PyData × PyData)} (h : Dv K H v (dkD es)) : ∃ a kvs, v = .ref a ∧ H a = some (.dK kvs) ∧ Dvk K H kvs es := by
  unfold dkD at h
  generalize hd : PyData.dict ((.none, .none) :: es) = d at h
  cases h with
  | dk h1 t1 =>
    injection hd with hd
    injection hd with _ h2
    subst h2
    exact ⟨_, _, rfl, h1, t1⟩
  | ins h1 t1 => injection hd with hd; injection hd with h0 _; injection h0 with _ h0; cases h0
  | st a => injection hd with hd; injection hd with h0 _; injection h0 with h0 _; cases h0
  | _ => cases hd
/-- what stands at a key -/
def lkD (k : Key) : List (PyData × PyData) → Option PyData
  | [] => none
  | (.str g, d) :: r => if k = .inr g then some d else lkD k r
  | (.int g, d) :: r => if k = .inl g then some d else lkD k r
  | _ :: r => lkD k r
theorem lkD_cons {k j : Key} {d : PyData} {r : List (PyData × PyData)} : lkD k ((keyD j, d) :: r) = if k = j then some d else lkD k r := by
  cases j <;> rfl
theorem Dvk.get {k : Key} : ∀ {es : List (PyData × PyData)} {kvs : List (Key × V)}, Dvk K H kvs es → (∀ d, lkD k es = some d → ∃ v, valV kvs k = some v ∧ Dv K H v d) ∧ (lkD k es = none → valV kvs k = none)
  | [], _, .nil => ⟨fun d h => (by cases h), fun _ => rfl⟩
  | _ :: r, _, .cons (k := j) (v := v) a b => by
    obtain ⟨h1, h2⟩ := Dvk.get (k := k) b
    rw [lkD_cons]
    by_cases e : k = j
    · subst e
      rw [if_pos rfl, valV_pos rfl]
      exact ⟨fun d h => (by cases h; exact ⟨v, rfl, a⟩), fun h => (by cases h)⟩
    · rw [if_neg e, valV_neg (fun w => e w.symm)]
      exact ⟨h1, h2⟩
def kyB (k : Key) : PyData → Bool
  | .str g => decide (k = .inr g)
  | .int g => decide (k = .inl g)
  | _ => false
theorem kyB_key {k j : Key} : kyB k (keyD j) = decide (k = j) := by cases j <;> rfl
/-- in its place, or at the end -/
def puD (k : Key) (x : PyData) (es : List (PyData × PyData)) : List (PyData × PyData) := if (es.any fun p => kyB k p.1) = true then es.map (fun p => if kyB k p.1 = true then (p.1, x) else p) else es ++ [(keyD k, x)]
theorem puD_dvk {kvs : List (Key × V)} {es : List (PyData × PyData)} {k : Key} {v : V} {d : PyData} (h : Dvk K H kvs es) (hv : Dv K H v d) : Dvk K H (putK kvs k v) (puD k d es) := by
  have hany : (es.any fun p => kyB k p.1) = kvs.any fun kv => decide (kv.1 = k) := by
    clear hv
    induction es generalizing kvs with
    | nil => cases h; rfl
    | cons p r ih =>
      cases h with
      | @cons g w kvs' e _ a b =>
        rw [List.any_cons, List.any_cons, ih b]
        congr 1
        rw [kyB_key]
        exact decide_eq_decide.mpr ⟨fun z => z.symm, fun z => z.symm⟩
  unfold puD putK
  rw [hany]
  split
  · rename_i hh
    clear hany hh
    induction es generalizing kvs with
    | nil => cases h; exact .nil
    | cons p r ih =>
      cases h with
      | @cons g w kvs' e _ a b =>
        rw [List.map_cons, List.map_cons]
        have tl : Dvk K H (kvs'.map fun kv => if kv.1 = k then (kv.1, v) else kv) (r.map fun p => if kyB k p.1 = true then (p.1, d) else p) := by
          clear ih a
          induction r generalizing kvs' with
          | nil => cases b; exact .nil
          | cons p2 r2 ih2 =>
            cases b with
            | @cons g2 w2 kvs2 e2 _ a2 b2 =>
              rw [List.map_cons, List.map_cons]
              by_cases z : g2 = k
              · simp only [kyB_key, z, decide_true, if_true]
                exact .cons hv (ih2 b2)
              · have z' : ¬ k = g2 := fun w => z w.symm
                simp only [kyB_key, z, z', decide_false, if_false, Bool.false_eq_true]
                exact .cons a2 (ih2 b2)
        by_cases z : g = k
        · simp only [kyB_key, z, decide_true, if_true]
          exact .cons hv tl
        · have z' : ¬ k = g := fun w => z w.symm
          simp only [kyB_key, z, z', decide_false, if_false, Bool.false_eq_true]
          exact .cons a tl
  · clear hany
    rename_i hh
    clear hh
    induction es generalizing kvs with
    | nil => cases h; exact .cons hv .nil
    | cons p r ih =>
      cases h with
      | cons a b => exact .cons a (ih b)
theorem lkD_app {j k : Key} {x : PyData} {es : List (PyData × PyData)} {kvs : List (Key × V)} (h : Dvk K H kvs es) : lkD j (es ++ [(keyD k, x)]) = match lkD j es with
    | some d => some d
    | none => if j = k then some x else none := by
  induction es generalizing kvs with
  | nil =>
    show lkD j [(keyD k, x)] = _
    rw [lkD_cons]
    rfl
  | cons p r ih =>
    cases h with
    | cons a b =>
      rw [List.cons_append, lkD_cons, lkD_cons, ih b]
      split <;> rfl
theorem lkD_put {j k : Key} {x : PyData} {es : List (PyData × PyData)} {kvs : List (Key × V)} (h : Dvk K H kvs es) : lkD j (puD k x es) = if j = k then some x else lkD j es := by
  have hany : (es.any fun p => kyB k p.1) = (lkD k es).isSome := by
    induction es generalizing kvs with
    | nil => rfl
    | cons p r ih =>
      cases h with
      | @cons g w kvs' e _ a b =>
        rw [List.any_cons, ih b, lkD_cons, kyB_key]
        by_cases z : k = g
        · rw [decide_eq_true z, if_pos z]; rfl
        · rw [decide_eq_false z, if_neg z]; rfl
  unfold puD
  rw [hany]
  split
  · rename_i hs
    have hm : lkD j (es.map fun p => if kyB k p.1 = true then (p.1, x) else p) = (lkD j es).map fun d => if j = k then x else d := by
      clear hany hs
      induction es generalizing kvs with
      | nil => rfl
      | cons p r ih =>
        cases h with
        | @cons g w kvs' d _ a b =>
          rw [List.map_cons, lkD_cons]
          by_cases z : k = g
          · subst z
            simp only [kyB_key, decide_true, if_true]
            rw [lkD_cons, ih b]
            by_cases jk : j = k
            · rw [if_pos jk, if_pos jk, Option.map_some, if_pos jk]
            · rw [if_neg jk, if_neg jk]
          · simp only [kyB_key, z, decide_false, if_false, Bool.false_eq_true]
            rw [lkD_cons, ih b]
            by_cases jg : j = g
            · rw [if_pos jg, if_pos jg, Option.map_some, if_neg (fun w => z (by rw [← w, jg]))]
            · rw [if_neg jg, if_neg jg]
    rw [hm]
    by_cases jk : j = k
    · subst jk
      rw [if_pos rfl]
      obtain ⟨d, hd⟩ := Option.isSome_iff_exists.mp hs
      rw [hd, Option.map_some, if_pos rfl]
    · rw [if_neg jk]
      cases lkD j es with
      | none => rfl
      | some d => rw [Option.map_some, if_neg jk]
  · rename_i hs
    rw [lkD_app h]
    by_cases jk : j = k
    · subst jk
      rw [if_pos rfl]
      cases q : lkD j es with
      | none => dsimp only; rw [if_pos rfl]
      | some d => rw [q] at hs; exact absurd rfl hs
    · simp only [jk, if_false]
      cases q : lkD j es with
      | none => rfl
      | some d => rfl
def fld (f : Str) : List (PyData × PyData) → Option PyData
  | [] => none
  | (.str g, d) :: r => if g = f then some d else fld f r
  | _ :: r => fld f r
theorem Dvf.get {f : Str} {d : PyData} : ∀ {kvs : List (PyData × PyData)} {fs : List (Str × V)}, Dvf K H fs kvs → fld f kvs = some d → ∃ v, fs.lookup f = some v ∧ Dv K H v d
  | [], _, .nil, e => by cases e
  | _ :: r, _, .cons (f := g) (v := v) a b, e => by
    unfold fld at e
    by_cases z : g = f
    · rw [if_pos z] at e
      cases e
      subst z
      exact ⟨v, by simp, a⟩
    · rw [if_neg z] at e
      obtain ⟨v', h1, h2⟩ := Dvf.get b e
      exact ⟨v', by rw [List.lookup_cons, show (f == g) = false from by simpa using fun w => z w.symm]; exact h1, h2⟩
/-- plain data is data of the library -/
def plain : PyData → Bool := fun d => !d.hasDict
mutual
theorem Dv.dp : ∀ {d : PyData} {v : V}, Dv K H v d → d.hasDict = false → Dp K H v d
  | .none, _, .non, _ => .non
  | .bool _, _, .bl b, _ => .bl b
  | .int _, _, .int i, _ => .int i
  | .str _, _, .str x, _ => .str x
  | .list ds, _, .lst h t, e => .lst (.inl (.inl h)) (Dvs.dp t e)
  | .tuple ds, _, .tup h t, e => .tup h (Dvs.dp t e)
  | .dict _, _, _, e => nomatch e
theorem Dvs.dp : ∀ {ds : List PyData} {vs : List V}, Dvs K H vs ds → PyData.hasDictAll ds = false → DpAll K H vs ds
  | [], _, .nil, _ => .nil
  | _ :: _, _, .cons h t, e => .cons (Dv.dp h (by have := Bool.or_eq_false_iff.mp e; exact this.1)) (Dvs.dp t (by have := Bool.or_eq_false_iff.mp e; exact this.2))
end
mutual
theorem dt_dv : ∀ {d : PyData} {v : V}, Dt H v d → Dv K H v d
  | .none, _, .non => .non
  | .bool _, _, .bl b => .bl b
  | .int _, _, .int i => .int i
  | .str _, _, .str x => .str x
  | .list ds, _, .lst h t => .lst h (dts_dv t)
  | .tuple ds, _, .tup h t => .tup (.inl (.inl h)) (dts_dv t)
theorem dts_dv : ∀ {ds : List PyData} {vs : List V}, Dts H vs ds → Dvs K H vs ds
  | [], _, .nil => .nil
  | _ :: _, _, .cons h t => .cons (dt_dv h) (dts_dv t)
end
end
end Fd

/-! what the names hold, as data; what reads it -/
namespace Fd
open PySem PySem.Spec PyProof.Rows L2 Fp
/-- a thing that this def alone knows, as data: a list; a list of lists of ints; a table -/
inductive OV where
  | lst (ds : List PyData)
  | mat (rs : List Addr) (E : List (List Int))
  | tab (C dx R : Addr) (rs : List Addr) (E : List (List Int))
  | dk (es : List (PyData × PyData))
  | dt (es : List (List Key × Int))
  | two (q : Bool → Addr) (x : Bool → OV)
/-- what a name holds: unknown, data, data that may lean on things of its own, just this value, a thing of its own at p -/
inductive SV where
  | u
  | d (x : PyData)
  | b (x : PyData)
  | v (x : V)
  | o (p : Addr) (x : OV)
def OV.adrs : Addr → OV → List Addr
  | p, .lst _ => [p]
  | p, .mat rs _ => p :: rs
  | p, .tab _ _ R rs _ => p :: R :: rs
  | p, .dk _ => [p]
  | p, .dt _ => [p]
  | p, .two q x => p :: ((x false).adrs (q false) ++ (x true).adrs (q true))
def SV.adr : SV → List Addr
  | .o p x => x.adrs p
  | _ => []
def SV.isU : SV → Bool
  | .u => true
  | _ => false
def SV.fgt : SV → SV
  | .b _ => .u
  | s => s
def own (δ : List SV) : List Addr := δ.flatMap SV.adr
def Zo (Z : Zs) (δ : List SV) : Zs := fun a => Z a || decide (a ∈ own δ)
theorem zo_f {Z : Zs} {δ : List SV} {a : Addr} : Zo Z δ a = false ↔ Z a = false ∧ a ∉ own δ := by
  unfold Zo
  rw [Bool.or_eq_false_iff, decide_eq_false_iff_not]
/-- hidden: with what is its own (clean), without -/
def Zl (lv : Bool) (Z : Zs) (δ : List SV) : Zs := if lv = true then Zo Z δ else Z
theorem zl_out {lv : Bool} {Z : Zs} {δ : List SV} {a : Addr} (h : Zl lv Z δ a = false) : Z a = false := by
  unfold Zl at h
  cases lv with
  | true => exact (zo_f.mp h).1
  | false => exact h
theorem zl_in {lv : Bool} {Z : Zs} {δ : List SV} {a : Addr} (h : Z a = true) : Zl lv Z δ a = true := by
  unfold Zl
  cases lv with
  | true => show (Z a || _) = true; rw [h]; rfl
  | false => exact h
def MatAt (H : Hp) (p : Addr) (rs : List Addr) (E : List (List Int)) : Prop := H p = some (.lst (rs.map V.ref)) ∧ rs.length = E.length ∧ ∀ (i : Nat) (r : Addr) (row : List Int), rs[i]? = some r → E[i]? = some row → H r = some (.lst (row.map V.int))
def OvAt (K : PySem.W.Frag) (Hh H : Hp) : Addr → OV → Prop
  | p, .lst ds => ∃ xs, H p = some (.lst xs) ∧ Dvs K Hh xs ds
  | p, .mat rs E => MatAt H p rs E
  | p, .tab C dx R rs E => H p = some (.ins C dx (tFl (E.length : Nat) (.ref R))) ∧ MatAt H R rs E
  | p, .dk es => ∃ kvs, H p = some (.dK kvs) ∧ Dvk K Hh kvs es
  | p, .dt es => H p = some (.dT (es.map fun e => (e.1, V.int e.2)))
  | p, .two q x => H p = some (.lst [.ref (q false), .ref (q true)]) ∧ OvAt K Hh H (q false) (x false) ∧ OvAt K Hh H (q true) (x true)
/-- it stands in a heap that has the same at its places -/
theorem MatAt.mono {H H' : Hp} {p : Addr} {rs : List Addr} {E : List (List Int)} (h : MatAt H p rs E) (e : ∀ a o, a ∈ p :: rs → H a = some o → H' a = some o) : MatAt H' p rs E :=
  ⟨e _ _ List.mem_cons_self h.1, h.2.1, fun i r row h1 h2 => e _ _ (List.mem_cons_of_mem _ (List.mem_of_getElem? h1)) (h.2.2 i r row h1 h2)⟩
theorem OvAt.mono {K : PySem.W.Frag} {Hh Hh' H H' : Hp} {p : Addr} {x : OV} (h : OvAt K Hh H p x) (s : Same Hh Hh') (e : ∀ a o, a ∈ x.adrs p → H a = some o → H' a = some o) : OvAt K Hh' H' p x := by
  induction x generalizing p with
  | lst ds =>
    obtain ⟨xs, h1, h2⟩ := h
    exact ⟨xs, e _ _ (List.mem_singleton.mpr rfl) h1, h2.same s⟩
  | mat rs E => exact MatAt.mono h e
  | tab C dx R rs E => exact ⟨e _ _ List.mem_cons_self h.1, MatAt.mono h.2 fun a o ha => e a o (List.mem_cons_of_mem _ ha)⟩
  | dk es =>
    obtain ⟨kvs, h1, h2⟩ := h
    exact ⟨kvs, e _ _ (List.mem_singleton.mpr rfl) h1, h2.same s⟩
  | dt es => exact e _ _ (List.mem_singleton.mpr rfl) h
  | two q x ih => exact ⟨e _ _ List.mem_cons_self h.1, ih false h.2.1 (fun a o ha => e a o (List.mem_cons_of_mem _ (List.mem_append_left _ ha))), ih true h.2.2 (fun a o ha => e a o (List.mem_cons_of_mem _ (List.mem_append_right _ ha)))⟩
theorem MatAt.al {H : Hp} {p : Addr} {rs : List Addr} {E : List (List Int)} (h : MatAt H p rs E) {a : Addr} (ha : a ∈ p :: rs) : H a ≠ none := by
  rcases List.mem_cons.mp ha with rfl | ha
  · rw [h.1]; intro w; cases w
  · obtain ⟨i, hi, rfl⟩ := List.getElem_of_mem ha
    rw [h.2.2 i _ _ (List.getElem?_eq_getElem hi) (List.getElem?_eq_getElem (by rw [← h.2.1]; exact hi))]
    intro w; cases w
theorem OvAt.al {K : PySem.W.Frag} {Hh H : Hp} {p : Addr} {x : OV} (h : OvAt K Hh H p x) {a : Addr} (ha : a ∈ x.adrs p) : H a ≠ none := by
  induction x generalizing p with
  | lst ds =>
    obtain ⟨xs, h1, h2⟩ := h
    rw [List.mem_singleton.mp ha, h1]
    intro w; cases w
  | mat rs E => exact MatAt.al h ha
  | tab C dx R rs E =>
    rcases List.mem_cons.mp ha with rfl | ha
    · rw [h.1]; intro w; cases w
    · exact MatAt.al h.2 ha
  | dk es =>
    obtain ⟨kvs, h1, h2⟩ := h
    rw [List.mem_singleton.mp ha, h1]
    intro w; cases w
  | dt es =>
    rw [List.mem_singleton.mp ha, show H p = _ from h]
    intro w; cases w
  | two q x ih =>
    rcases List.mem_cons.mp ha with rfl | ha
    · rw [h.1]; intro w; cases w
    · rcases List.mem_append.mp ha with ha | ha
      · exact ih false h.2.1 ha
      · exact ih true h.2.2 ha
def SvOk (K : PySem.W.Frag) (Z : Zs) (δ : List SV) (H : Hp) (x : Option (Option V)) : SV → Prop
  | .u => True
  | .d d => ∃ v, x = some (some v) ∧ Dv K (hid (Zo Z δ) H) v d
  | .b d => ∃ v, x = some (some v) ∧ Dv K (hid Z H) v d
  | .v v => x = some (some v)
  | .o p ov => x = some (some (.ref p)) ∧ OvAt K (hid (Zo Z δ) H) H p ov
structure Rel (K : PySem.W.Frag) (Z : Zs) (H : Hp) (σ : L2.St) (δ : List SV) : Prop where
  len : σ.length = δ.length
  ok : ∀ (i : Nat) (s : SV), δ[i]? = some s → SvOk K Z δ H σ[i]? s
  nd : (own δ).Nodup
  off : ∀ p ∈ own δ, Z p = false
/-- the hidden things stand -/
def Al (Z : Zs) (H : Hp) : Prop := ∀ a, Z a = true → H a ≠ none
theorem Al.same {Z : Zs} {H H' : Hp} (a : Al Z H) (e : Same H H') : Al Z H' := fun b z => by
  cases q : H b with
  | none => exact absurd q (a b z)
  | some o => rw [e b o q]; intro w; cases w
theorem Al.off {Z : Zs} {H : Hp} {p : Addr} (a : Al Z H) (h : H p = none) : Z p = false := by
  cases q : Z p with
  | false => rfl
  | true => exact absurd h (a p q)
/-- what may change: M; all else stays -/
structure Frm (M : Zs) (H H' : Hp) : Prop where
  keep : ∀ b o, H b = some o → M b = false → H' b = some o
  al : ∀ b, H b ≠ none → H' b ≠ none
theorem Frm.of {M : Zs} {H H' : Hp} (e : Same H H') : Frm M H H' := ⟨fun b o h _ => e b o h, fun b h => by
  cases q : H b with
  | none => exact absurd q h
  | some o => rw [e b o q]; intro w; cases w⟩
theorem Frm.trans {M : Zs} {H H1 H2 : Hp} (a : Frm M H H1) (b : Frm M H1 H2) : Frm M H H2 := ⟨fun c o h m => b.keep c o (a.keep c o h m) m, fun c h => b.al c (a.al c h)⟩
theorem Frm.refl {M : Zs} {H : Hp} : Frm M H H := ⟨fun _ _ h _ => h, fun _ h => h⟩
theorem Frm.none {M : Zs} {H H' : Hp} {b : Addr} (e : Frm M H H') (h : H' b = none) : H b = none := by
  cases q : H b with
  | none => rfl
  | some o => exact absurd h (e.al b (by rw [q]; intro w; cases w))
theorem Frm.alz {M : Zs} {Z : Zs} {H H' : Hp} (e : Frm M H H') (a : Al Z H) : Al Z H' := fun b z => e.al b (a b z)
theorem Frm.hid {M Z : Zs} {H H' : Hp} (e : Frm M H H') (mz : ∀ a, M a = true → Z a = true) : Same (hid Z H) (hid Z H') := hid_sub fun a o h z => ⟨e.keep a o h (by
  cases q : M a with
  | false => rfl
  | true => rw [mz a q] at z; cases z), z⟩
section
variable {K : PySem.W.Frag} {Z M : Zs} {H H' : Hp} {σ : L2.St} {δ : List SV}
theorem own_in {s : SV} {i : Nat} {a : Addr} (h : δ[i]? = some s) (ha : a ∈ s.adr) : a ∈ own δ := List.mem_flatMap.mpr ⟨s, List.mem_of_getElem? h, ha⟩
theorem OV.here (p : Addr) (x : OV) : p ∈ x.adrs p := by cases x <;> exact List.mem_cons_self
theorem own_mem {p : Addr} {ov : OV} {i : Nat} (h : δ[i]? = some (.o p ov)) : p ∈ own δ := own_in h (OV.here p ov)
theorem Rel.frm (r : Rel K Z H σ δ) (e : Frm M H H') (mz : ∀ a, M a = true → Z a = true) : Rel K Z H' σ δ := by
  have hb : Same (hid Z H) (hid Z H') := e.hid mz
  have hs : Same (hid (Zo Z δ) H) (hid (Zo Z δ) H') := e.hid fun a h => by
    unfold Zo
    rw [mz a h]
    rfl
  refine ⟨r.len, fun i s hi => ?_, r.nd, r.off⟩
  have h := r.ok i s hi
  cases s with
  | u => trivial
  | d d =>
    obtain ⟨v, h1, h2⟩ := h
    exact ⟨v, h1, h2.same hs⟩
  | b d =>
    obtain ⟨v, h1, h2⟩ := h
    exact ⟨v, h1, h2.same hb⟩
  | v v => exact h
  | o p ov =>
    refine ⟨h.1, h.2.mono hs fun a o ha e1 => e.keep a o e1 ?_⟩
    cases q : M a with
    | false => rfl
    | true =>
      have := r.off a (own_in hi ha)
      rw [mz a q] at this
      cases this
theorem Rel.same (r : Rel K Z H σ δ) (e : Same H H') : Rel K Z H' σ δ := r.frm (M := fun _ => false) (Frm.of e) (fun _ h => nomatch h)
theorem Rel.alo (r : Rel K Z H σ δ) (a : Al Z H) : Al (Zo Z δ) H := fun b z => by
  unfold Zo at z
  rcases Bool.or_eq_true_iff.mp z with z | z
  · exact a b z
  · obtain ⟨s, hs, e⟩ := List.mem_flatMap.mp (of_decide_eq_true z)
    obtain ⟨i, hi, rfl⟩ := List.getElem_of_mem hs
    have h := r.ok i _ (List.getElem?_eq_getElem hi)
    cases q : δ[i] with
    | o p ov =>
      rw [q] at h e
      exact h.2.al e
    | _ => rw [q] at e; cases e
theorem Rel.all (r : Rel K Z H σ δ) (a : Al Z H) (lv : Bool) : Al (Zl lv Z δ) H := by
  unfold Zl
  cases lv with
  | true => exact r.alo a
  | false => exact a
end
/-! ### what is read, and changes nothing (lv: it leans on nothing of its own) -/
section
variable (K : PySem.W.Frag) (lv : Bool)
def Ev (δ : List SV) (te : TE) (d : PyData) : Prop := ∀ (Z : Zs) (H : Hp) (σ : L2.St), Al Z H → Rel K Z H σ δ → ∀ Q : VK, (∀ v H', Same H H' → Dv K (hid (Zl lv Z δ) H') v d → Q v H') → te σ H Q
def EvA (δ : List SV) (ta : TA) (ds : List PyData) : Prop := ∀ (Z : Zs) (H : Hp) (σ : L2.St), Al Z H → Rel K Z H σ δ → ∀ Q : List V → Hp → Prop, (∀ vs H', Same H H' → Dvs K (hid (Zl lv Z δ) H') vs ds → Q vs H') → ta σ H Q
def EvB (δ : List SV) (tt : TT) (b : Bool) : Prop := ∀ (Z : Zs) (H : Hp) (σ : L2.St), Al Z H → Rel K Z H σ δ → ∀ Q : Bool → Hp → Prop, (∀ H', Same H H' → Q b H') → tt σ H Q
/-- what a two-place rule does with data; what a built-in does -/
def R2d (r : R2) (x y d : PyData) : Prop := ∀ (Z : Zs) (H : Hp) (v w : V), Al Z H → Dv K (hid Z H) v x → Dv K (hid Z H) w y → ∀ Q : VK, (∀ u H', Same H H' → Dv K (hid Z H') u d → Q u H') → r v w H Q
def RAd (r : List V → Hp → VK → Prop) (ds : List PyData) (d : PyData) : Prop := ∀ (Z : Zs) (H : Hp) (vs : List V), Al Z H → Dvs K (hid Z H) vs ds → ∀ Q : VK, (∀ u H', Same H H' → Dv K (hid Z H') u d → Q u H') → r vs H Q
end
def flatD : PyData → Bool
  | .none | .bool _ | .int _ | .str _ => true
  | _ => false
theorem Dv.flat {K : PySem.W.Frag} {H H' : Hp} {v : V} {d : PyData} (h : Dv K H v d) (f : flatD d = true) : Dv K H' v d := by
  cases h with
  | non => exact .non
  | bl b => exact .bl b
  | int i => exact .int i
  | str z => exact .str z
  | _ => cases f
section
variable {K : PySem.W.Frag} {lv l1 l2 : Bool} {δ : List SV} {ta tb te ti : TE} {tr : TA} {tt tu : TT} {d x y : PyData} {ds es xs ys : List PyData} {a b : Bool} {r : R2} {i : Nat}
theorem zl_new {Z : Zs} {H : Hp} {p : Addr} {o : HO} (a : Al Z H) (h : H p = none) : hid Z (upd H p o) p = some o := hid_in upd_same (a.off h)
theorem same_hid {Z : Zs} {H H' : Hp} (e : Same H H') : Same (hid Z H) (hid Z H') := (Frm.of (M := fun _ => false) e).hid fun _ h => nomatch h
theorem hid_new {Z : Zs} {H : Hp} {p : Addr} {o : HO} (a : Al Z H) (h : H p = none) : hid Z (upd H p o) p = some o := hid_in upd_same (a.off h)
theorem zl_le {Z : Zs} {H : Hp} : Same (hid (Zl true Z δ) H) (hid (Zl lv Z δ) H) := hid_sub fun a o h z => ⟨h, by
  cases lv with
  | true => exact z
  | false => exact zl_out z⟩
theorem Ev.cast (h : Ev K lv δ te x) (e : x = d) : Ev K lv δ te d := e ▸ h
theorem EvB.cast (h : EvB K δ tt a) (e : a = b) : EvB K δ tt b := e ▸ h
theorem Ev.low (h : Ev K true δ te d) : Ev K lv δ te d := fun Z H σ al r Q q => h Z H σ al r Q fun v H' e hv => q v H' e (hv.same zl_le)
theorem Ev.flat (h : Ev K lv δ te d) (f : flatD d = true) : Ev K l1 δ te d := fun Z H σ al r Q q => h Z H σ al r Q fun v H' e hv => q v H' e (hv.flat f)
theorem EvA.low (h : EvA K true δ tr ds) : EvA K lv δ tr ds := fun Z H σ al r Q q => h Z H σ al r Q fun v H' e hv => q v H' e (hv.same zl_le)
theorem ev_int {z : Int} : Ev K lv δ (tC (.int z)) (.int z) := fun Z H σ _ _ Q q => q _ H (Same.refl _) (.int z)
theorem ev_str {z : Str} : Ev K lv δ (tC (.str z)) (.str z) := fun Z H σ _ _ Q q => q _ H (Same.refl _) (.str z)
theorem ev_bl {z : Bool} : Ev K lv δ (tC (.bl z)) (.bool z) := fun Z H σ _ _ Q q => q _ H (Same.refl _) (.bl z)
theorem ev_non : Ev K lv δ (tC .non) .none := fun Z H σ _ _ Q q => q _ H (Same.refl _) .non
theorem ev_st {z : Addr} : Ev K lv δ (tC (.ref z)) (stD z) := fun Z H σ _ _ Q q => q _ H (Same.refl _) (.st z)
theorem ev_var (h : δ[i]? = some (.d d)) : Ev K lv δ (tVar i) d := Ev.low fun Z H σ _ r Q q => by
  obtain ⟨v, h1, h2⟩ := r.ok i _ h
  exact ⟨v, h1, q v H (Same.refl _) h2⟩
theorem ev_varB (h : δ[i]? = some (.b d)) : Ev K false δ (tVar i) d := fun Z H σ _ r Q q => by
  obtain ⟨v, h1, h2⟩ := r.ok i _ h
  exact ⟨v, h1, q v H (Same.refl _) h2⟩
theorem ev_own {p : Addr} (h : δ[i]? = some (.o p (.lst ds))) : Ev K false δ (tVar i) (.list ds) := fun Z H σ _ r Q q => by
  obtain ⟨h1, xs, h2, h3⟩ := r.ok i _ h
  exact ⟨_, h1, q _ H (Same.refl _) (.lst (hid_in h2 (r.off p (own_mem h))) (h3.same zl_le))⟩
theorem ev_ownD {p : Addr} {es : List (PyData × PyData)} (h : δ[i]? = some (.o p (.dk es))) : Ev K false δ (tVar i) (dkD es) := fun Z H σ _ r Q q => by
  obtain ⟨h1, kvs, h2, h3⟩ := r.ok i _ h
  exact ⟨_, h1, q _ H (Same.refl _) (.dk (hid_in h2 (r.off p (own_mem h))) (h3.same zl_le))⟩
theorem mat_dv {Z : Zs} {H : Hp} {p : Addr} {rs : List Addr} {E : List (List Int)} (h : MatAt H p rs E) (z : ∀ a ∈ p :: rs, Z a = false) : Dv K (hid Z H) (.ref p) (mD E) := by
  refine .lst (hid_in h.1 (z p List.mem_cons_self)) ?_
  have : ∀ (rs : List Addr) (E : List (List Int)), rs.length = E.length → (∀ a ∈ rs, Z a = false) → (∀ (i : Nat) (r : Addr) (row : List Int), rs[i]? = some r → E[i]? = some row → H r = some (.lst (row.map V.int))) → Dvs K (hid Z H) (rs.map V.ref) (E.map fun r => .list (r.map PyData.int)) := by
    intro rs
    induction rs with
    | nil =>
      intro E hl _ _
      cases E with
      | nil => exact .nil
      | cons x r => cases hl
    | cons a r ih =>
      intro E hl hz hh
      cases E with
      | nil => cases hl
      | cons row E =>
        exact .cons (.lst (hid_in (hh 0 a row rfl rfl) (hz a List.mem_cons_self)) (dvs_ints row)) (ih E (Nat.succ.inj hl) (fun b hb => hz b (List.mem_cons_of_mem _ hb)) fun i r' row' h1 h2 => hh (i + 1) r' row' h1 h2)
  exact this rs E h.2.1 (fun a ha => z a (List.mem_cons_of_mem _ ha)) h.2.2
theorem ev_mat {p : Addr} {rs : List Addr} {E : List (List Int)} (h : δ[i]? = some (.o p (.mat rs E))) : Ev K false δ (tVar i) (mD E) := fun Z H σ _ r Q q => by
  obtain ⟨h1, h2⟩ := r.ok i _ h
  exact ⟨_, h1, q _ H (Same.refl _) (mat_dv h2 fun a ha => r.off a (own_in h ha))⟩
def tbD (C : Addr) (E : List (List Int)) : PyData := .dict ((.none, .int (C : Nat)) :: [(.str "size", .int (E.length : Nat)), (.str "_rows", mD E)])
theorem tFl_eq (n : Int) (R : V) : tFl n R = [(("size" : Str), .int n), (("_rows" : Str), R)] := by
  unfold tFl
  show (if ("size" : Str) = "_rows" then _ else _) = _
  rw [if_neg s_sr]
  rfl
theorem ev_tab {p C dx R : Addr} {rs : List Addr} {E : List (List Int)} (h : δ[i]? = some (.o p (.tab C dx R rs E))) : Ev K false δ (tVar i) (tbD C E) := fun Z H σ _ r Q q => by
  obtain ⟨h1, h2, h3⟩ := r.ok i _ h
  refine ⟨_, h1, q _ H (Same.refl _) (.ins (hid_in h2 (r.off p (own_mem h))) ?_)⟩
  rw [tFl_eq]
  exact .cons (.int _) (.cons (mat_dv h3 fun a ha => r.off a (own_in h (List.mem_cons_of_mem _ ha))) .nil)
theorem eva_nil : EvA K lv δ tNil [] := fun Z H σ _ _ Q q => q _ H (Same.refl _) .nil
theorem eva_cons (h : Ev K lv δ ta d) (t : EvA K lv δ tr ds) : EvA K lv δ (tCons ta tr) (d :: ds) := fun Z H σ a r Q q =>
  h Z H σ a r _ fun v H1 e1 hv => t Z H1 σ (a.same e1) (r.same e1) _ fun vs H2 e2 hvs => q _ H2 (e1.trans e2) (.cons (hv.same (same_hid e2)) hvs)
theorem ev_tup (t : EvA K lv δ tr ds) (hl : ds.length ≤ 1000) : Ev K lv δ (tTup tr) (.tuple ds) := fun Z H σ a r Q q =>
  t Z H σ a r _ fun vs H2 e2 hvs => ⟨Nat.le_of_lt (small1000 (by rw [hvs.len]; exact hl)), fun p hp => q _ _ (Same.new e2 hp) (.tup (.inl (.inl (hid_new ((r.all a lv).same e2) hp))) (hvs.same (same_hid (same_new hp))))⟩
theorem ev_lst (t : EvA K lv δ tr ds) (hl : ds.length ≤ 1000) : Ev K lv δ (tLst tr) (.list ds) := fun Z H σ a r Q q =>
  t Z H σ a r _ fun vs H2 e2 hvs => ⟨Nat.le_of_lt (small1000 (by rw [hvs.len]; exact hl)), fun p hp => q _ _ (Same.new e2 hp) (.lst (hid_new ((r.all a lv).same e2) hp) (hvs.same (same_hid (same_new hp))))⟩
theorem ev_op (ha : Ev K lv δ ta x) (hb : Ev K lv δ tb y) (hr : R2d K r x y d) : Ev K lv δ (tOp r ta tb) d := fun Z H σ a re Q q =>
  ha Z H σ a re _ fun v H1 e1 hv => hb Z H1 σ (a.same e1) (re.same e1) _ fun w H2 e2 hw =>
    hr (Zl lv Z δ) H2 v w ((re.all a lv).same (e1.trans e2)) (hv.same (same_hid e2)) hw _ fun u H3 e3 hu => q u H3 ((e1.trans e2).trans e3) hu
theorem ev_cb {ra : List V → Hp → VK → Prop} (t : EvA K lv δ tr ds) (hr : RAd K ra ds d) : Ev K lv δ (tCB ra tr) d := fun Z H σ a r Q q =>
  t Z H σ a r _ fun vs H1 e1 hvs => hr (Zl lv Z δ) H1 vs ((r.all a lv).same e1) hvs _ fun u H2 e2 hu => q u H2 (e1.trans e2) hu
/-! tests -/
theorem evb_B (h : Ev K lv δ te (.bool b)) : EvB K δ (tB te) b := fun Z H σ a r Q q => h Z H σ a r _ fun v H1 e hv => ⟨b, hv.bool, q H1 e⟩
theorem evb_T (h : Ev K lv δ te (.bool b)) : EvB K δ (tTest te) b := fun Z H σ a r Q q => h Z H σ a r _ fun v H1 e hv => ⟨b, hv.bool, q H1 e⟩
theorem evb_not (h : EvB K δ tt b) : EvB K δ (tNot tt) (!b) := fun Z H σ a r Q q => h Z H σ a r _ fun H1 e => q H1 e
theorem evb_and (h : EvB K δ tt a) (h2 : a = true → EvB K δ tu b) : EvB K δ (tAnd tt tu) (a && b) := fun Z H σ al r Q q => h Z H σ al r _ fun H1 e => by
  cases a with
  | true => exact h2 rfl Z H1 σ (al.same e) (r.same e) _ fun H2 e2 => q H2 (e.trans e2)
  | false => exact q H1 e
theorem evb_or (h : EvB K δ tt a) (h2 : a = false → EvB K δ tu b) : EvB K δ (tOr tt tu) (a || b) := fun Z H σ al r Q q => h Z H σ al r _ fun H1 e => by
  cases a with
  | false => exact h2 rfl Z H1 σ (al.same e) (r.same e) _ fun H2 e2 => q H2 (e.trans e2)
  | true => exact q H1 e
theorem evb_yes : EvB K δ tYes true := fun Z H σ _ _ Q q => q H (Same.refl _)
theorem ev_if (h : EvB K δ tt b) (h1 : b = true → Ev K lv δ ta x) (h2 : b = false → Ev K lv δ tb y) : Ev K lv δ (tIf tt ta tb) (if b = true then x else y) := fun Z H σ al r Q q => h Z H σ al r _ fun H1 e => by
  cases b with
  | true => exact h1 rfl Z H1 σ (al.same e) (r.same e) _ fun v H2 e2 hv => q v H2 (e.trans e2) hv
  | false => exact h2 rfl Z H1 σ (al.same e) (r.same e) _ fun v H2 e2 hv => q v H2 (e.trans e2) hv
theorem ev_andV (h : Ev K lv δ ta (.bool a)) (h2 : a = true → Ev K lv δ tb (.bool b)) : Ev K lv δ (tAndV ta tb) (.bool (a && b)) := fun Z H σ al r Q q => h Z H σ al r _ fun v H1 e hv => ⟨a, hv.bool, by
  cases a with
  | true => exact h2 rfl Z H1 σ (al.same e) (r.same e) _ fun v H2 e2 hv => q v H2 (e.trans e2) hv
  | false => exact q _ H1 e (.bl _)⟩
theorem ev_orV (h : Ev K lv δ ta (.bool a)) (h2 : a = false → Ev K lv δ tb (.bool b)) : Ev K lv δ (tOrV ta tb) (.bool (a || b)) := fun Z H σ al r Q q => h Z H σ al r _ fun v H1 e hv => ⟨a, hv.bool, by
  cases a with
  | false => exact h2 rfl Z H1 σ (al.same e) (r.same e) _ fun v H2 e2 hv => q v H2 (e.trans e2) hv
  | true => exact q _ H1 e (.bl _)⟩
theorem ev_notV (h : Ev K lv δ ta (.bool a)) : Ev K lv δ (tNotV ta) (.bool (!a)) := fun Z H σ al r Q q => h Z H σ al r _ fun v H1 e hv => ⟨a, hv.bool, q _ H1 e (.bl _)⟩
end
/-! ### rules with two places -/
section
variable {K : PySem.W.Frag} {i j : Int} {xs ys : List PyData} {x y d : PyData}
theorem r2_I {g : Int → Int → V} {f : PyData} (hf : ∀ Hh, Dv K Hh (g i j) f) : R2d K (rI0 g) (.int i) (.int j) f := fun Z H v w a hv hw Q q => by
  cases hv
  cases hw
  exact ⟨i, j, rfl, rfl, q _ H (Same.refl _) (hf _)⟩
theorem r2_II {C : Int → Int → Prop} {g : Int → Int → V} {f : PyData} (hf : ∀ Hh, Dv K Hh (g i j) f) (hc : C i j) : R2d K (rI C g) (.int i) (.int j) f := fun Z H v w a hv hw Q q => by
  cases hv
  cases hw
  exact ⟨i, j, rfl, rfl, hc, q _ H (Same.refl _) (hf _)⟩
theorem r2_add : R2d K (rI0 fun i j => .int (i + j)) (.int i) (.int j) (.int (i + j)) := r2_I fun _ => .int _
theorem r2_sub : R2d K (rI0 fun i j => .int (i - j)) (.int i) (.int j) (.int (i - j)) := r2_I fun _ => .int _
theorem r2_lt : R2d K (rI0 fun i j => .bl (decide (i < j))) (.int i) (.int j) (.bool (decide (i < j))) := r2_I fun _ => .bl _
theorem r2_le : R2d K (rI0 fun i j => .bl (decide (i ≤ j))) (.int i) (.int j) (.bool (decide (i ≤ j))) := r2_I fun _ => .bl _
theorem r2_gt : R2d K (rI0 fun i j => .bl (decide (j < i))) (.int i) (.int j) (.bool (decide (j < i))) := r2_I fun _ => .bl _
theorem r2_ge : R2d K (rI0 fun i j => .bl (decide (j ≤ i))) (.int i) (.int j) (.bool (decide (j ≤ i))) := r2_I fun _ => .bl _
theorem r2_ix {n : Nat} (h : xs[n]? = some d) : R2d K (rIxL K) (.list xs) (.int (n : Int)) d := fun Z H v w al hv hw Q q => by
  cases hw
  obtain ⟨a, vs, rfl, ha, hv⟩ := hv.list
  obtain ⟨u, h1, h2⟩ := hv.get h
  exact ⟨_, _, _, _, rfl, rfl, .inl (.inl (of_hid ha).1), atI_nat h1, q _ H (Same.refl _) h2⟩
theorem r2_ixT {n : Nat} (h : xs[n]? = some d) : R2d K (rIxT K) (.tuple xs) (.int (n : Int)) d := fun Z H v w al hv hw Q q => by
  cases hw
  obtain ⟨a, vs, rfl, ha, hv⟩ := hv.tuple
  obtain ⟨u, h1, h2⟩ := hv.get h
  exact ⟨_, _, _, _, rfl, rfl, same_tup hid_out ha, atI_nat h1, q _ H (Same.refl _) h2⟩
theorem r2_cat (hl : xs.length + ys.length ≤ 100000) : R2d K rCat (.list xs) (.list ys) (.list (xs ++ ys)) := fun Z H v w al hv hw Q q => by
  obtain ⟨a, vs, rfl, ha, hv⟩ := hv.list
  obtain ⟨b, ws, rfl, hb, hw⟩ := hw.list
  exact ⟨_, _, _, _, rfl, rfl, (of_hid ha).1, (of_hid hb).1, Nat.le_trans (by rw [hv.len, hw.len]; exact hl) (by decide), fun p hp => q _ _ (same_new hp) (.lst (hid_new al hp) ((hv.app hw).same (same_hid (same_new hp))))⟩
theorem r2_rep (hl : xs.length * j.toNat ≤ 100000) (h1 : -(2 ^ 63) ≤ j) (h2 : j < 2 ^ 63) : R2d K rRep (.list xs) (.int j) (.list (List.replicate j.toNat xs).flatten) := fun Z H v w al hv hw Q q => by
  cases hw
  obtain ⟨a, vs, rfl, ha, hv⟩ := hv.list
  exact ⟨_, _, _, rfl, rfl, (of_hid ha).1, h1, h2, Nat.le_trans (by rw [hv.len]; exact hl) (by decide), fun p hp => q _ _ (same_new hp) (.lst (hid_new al hp) ((hv.rep _).same (same_hid (same_new hp))))⟩
theorem r2_eqI : R2d K rEq (.int i) (.int j) (.bool (decide (i = j))) := fun Z H v w a hv hw Q q => by
  cases hv
  cases hw
  refine ⟨rfl, ?_⟩
  rw [show decide (V.int i = V.int j) = decide (i = j) from decide_eq_decide.mpr ⟨fun z => V.int.inj z, fun z => by rw [z]⟩]
  exact q _ H (Same.refl _) (.bl _)
theorem r2_neI : R2d K rNe (.int i) (.int j) (.bool (!decide (i = j))) := fun Z H v w a hv hw Q q => by
  cases hv
  cases hw
  refine ⟨rfl, ?_⟩
  rw [show decide (V.int i = V.int j) = decide (i = j) from decide_eq_decide.mpr ⟨fun z => V.int.inj z, fun z => by rw [z]⟩]
  exact q _ H (Same.refl _) (.bl _)
theorem r2_eqS {s t : Str} : R2d K rEq (.str s) (.str t) (.bool (decide (s = t))) := fun Z H v w a hv hw Q q => by
  cases hv
  cases hw
  refine ⟨rfl, ?_⟩
  rw [show decide (V.str s = V.str t) = decide (s = t) from decide_eq_decide.mpr ⟨fun z => V.str.inj z, fun z => by rw [z]⟩]
  exact q _ H (Same.refl _) (.bl _)
theorem r2_eqBo {s t : Bool} : R2d K rEq (.bool s) (.bool t) (.bool (decide (s = t))) := fun Z H v w a hv hw Q q => by
  cases hv
  cases hw
  refine ⟨rfl, ?_⟩
  rw [show decide (V.bl s = V.bl t) = decide (s = t) from decide_eq_decide.mpr ⟨fun z => V.bl.inj z, fun z => by rw [z]⟩]
  exact q _ H (Same.refl _) (.bl _)
theorem r2_neBo {s t : Bool} : R2d K rNe (.bool s) (.bool t) (.bool (!decide (s = t))) := fun Z H v w a hv hw Q q => by
  cases hv
  cases hw
  refine ⟨rfl, ?_⟩
  rw [show decide (V.bl s = V.bl t) = decide (s = t) from decide_eq_decide.mpr ⟨fun z => V.bl.inj z, fun z => by rw [z]⟩]
  exact q _ H (Same.refl _) (.bl _)
theorem r2_neS {s t : Str} : R2d K rNe (.str s) (.str t) (.bool (!decide (s = t))) := fun Z H v w a hv hw Q q => by
  cases hv
  cases hw
  refine ⟨rfl, ?_⟩
  rw [show decide (V.str s = V.str t) = decide (s = t) from decide_eq_decide.mpr ⟨fun z => V.str.inj z, fun z => by rw [z]⟩]
  exact q _ H (Same.refl _) (.bl _)
theorem hid_dp {Z : Zs} {H : Hp} {v : V} (h : Dv K (hid Z H) v x) (e : x.hasDict = false) : Dp K H v x := (h.same hid_out).dp e
/-- flat enough for == -/
structure EqOk (x y : PyData) : Prop where
  d1 : x.hasDict = false
  d2 : y.hasDict = false
  l1 : x.canLay0 = true
  l2 : y.canLay0 = true
  dep : min x.depth y.depth ≤ 64
theorem r2_eqC (h : EqOk x y) : R2d K (rEqC K) x y (.bool (PyData.eqv x y)) := fun Z H v w a hv hw Q q => ⟨x, y, hid_dp hv h.d1, hid_dp hw h.d2, h.l1, h.l2, h.dep, q _ H (Same.refl _) (.bl _)⟩
theorem r2_neC (h : EqOk x y) : R2d K (rNeC K) x y (.bool (!PyData.eqv x y)) := fun Z H v w a hv hw Q q => ⟨x, y, hid_dp hv h.d1, hid_dp hw h.d2, h.l1, h.l2, h.dep, q _ H (Same.refl _) (.bl _)⟩
/-! built-ins -/
theorem one_list {H : Hp} {vs : List V} (h : Dvs K H vs [.list xs]) : ∃ a ws, vs = [.ref a] ∧ H a = some (.lst ws) ∧ Dvs K H ws xs := by
  cases h with
  | cons a b =>
    cases b
    obtain ⟨p, ws, rfl, h1, h2⟩ := a.list
    exact ⟨p, ws, rfl, h1, h2⟩
theorem ra_len : RAd K (rLenL K) [.list xs] (.int (xs.length : Nat)) := fun Z H vs al h Q q => by
  obtain ⟨a, ws, rfl, ha, hv⟩ := one_list h
  exact ⟨_, _, rfl, .inl (.inl (of_hid ha).1), by rw [hv.len]; exact q _ H (Same.refl _) (.int _)⟩
theorem ra_list : RAd K (rListL K) [.list xs] (.list xs) := fun Z H vs al h Q q => by
  obtain ⟨a, ws, rfl, ha, hv⟩ := one_list h
  exact ⟨_, _, rfl, .inl (.inl (of_hid ha).1), fun p hp => q _ _ (same_new hp) (.lst (hid_new al hp) (hv.same (same_hid (same_new hp))))⟩
theorem ra_tuple : RAd K (rTupL K) [.list xs] (.tuple xs) := fun Z H vs al h Q q => by
  obtain ⟨a, ws, rfl, ha, hv⟩ := one_list h
  exact ⟨_, _, rfl, .inl (.inl (of_hid ha).1), fun p hp => q _ _ (same_new hp) (.tup (.inl (.inl (hid_new al hp))) (hv.same (same_hid (same_new hp))))⟩
theorem ra_intI : RAd K rIntI [.int i] (.int i) := fun Z H vs al h Q q => by
  cases h with
  | cons a b =>
    cases b
    cases a
    exact ⟨i, rfl, q _ H (Same.refl _) (.int _)⟩
theorem ra_intB {b : Bool} : RAd K rIntB [.bool b] (.int (if b then 1 else 0)) := fun Z H vs al h Q q => by
  cases h with
  | cons a b =>
    cases b
    cases a
    exact ⟨_, rfl, q _ H (Same.refl _) (.int _)⟩
theorem ra_all {bs : List Bool} : RAd K (rAll K) [.list (bs.map .bool)] (.bool (bs.all id)) := fun Z H vs al h Q q => by
  obtain ⟨a, ws, rfl, ha, hv⟩ := one_list h
  obtain rfl := hv.bools
  exact ⟨_, _, rfl, .inl (.inl (of_hid ha).1), q _ H (Same.refl _) (.bl _)⟩
end
end Fd

/-! walks, targets, comprehensions, as data -/
namespace Fd
open PySem PySem.Spec PyProof.Rows L2 Fp
theorem wipe_at {σ : L2.St} {j : Nat} : ∀ {vs : List Nat}, (wipe σ vs)[j]? = if j ∈ vs then (if j < σ.length then some none else none) else σ[j]?
  | [] => by simp [wipe]
  | v :: vs => by
    have ih := wipe_at (σ := σ) (j := j) (vs := vs)
    show ((wipe σ vs).set v none)[j]? = _
    rw [List.getElem?_set, wipe_length, ih]
    by_cases h : v = j
    · subst h
      simp
    · have : ¬ j = v := fun z => h z.symm
      simp [h, this]
theorem wipe_set {σ : L2.St} {i : Nat} {x : Option V} {vs : List Nat} (h : i ∈ vs) : wipe (σ.set i x) vs = wipe σ vs := by
  refine List.ext_getElem? fun j => ?_
  rw [wipe_at, wipe_at, List.length_set]
  by_cases z : j ∈ vs
  · rw [if_pos z, if_pos z]
  · rw [if_neg z, if_neg z, List.getElem?_set_ne]
    intro w
    exact z (w ▸ h)
theorem wipe_wipe {σ : L2.St} {vs : List Nat} : wipe (wipe σ vs) vs = wipe σ vs := by
  refine List.ext_getElem? fun j => ?_
  rw [wipe_at, wipe_length, wipe_at]
  by_cases z : j ∈ vs
  · rw [if_pos z, if_pos z]
  · rw [if_neg z, if_neg z]
theorem own_sub {s : SV} (hs : s.adr = []) : ∀ (δ : List SV) (i : Nat), (own (δ.set i s)).Sublist (own δ)
  | [], i => .slnil
  | x :: r, 0 => by
    show List.Sublist (List.flatMap SV.adr (s :: r)) (List.flatMap SV.adr (x :: r))
    rw [List.flatMap_cons, hs, List.flatMap_cons]
    exact List.sublist_append_right _ _
  | x :: r, i + 1 => by
    have ih := own_sub hs r i
    show List.Sublist (List.flatMap SV.adr (x :: r.set i s)) (List.flatMap SV.adr (x :: r))
    rw [List.flatMap_cons, List.flatMap_cons]
    exact (List.Sublist.refl _).append ih
section
variable {K : PySem.W.Frag} {Z : Zs} {H : Hp} {σ : L2.St} {δ : List SV} {i : Nat} {v : V} {d : PyData} {lv : Bool}
theorem zo_sub {δ' : List SV} (h : (own δ').Sublist (own δ)) : Same (hid (Zo Z δ) H) (hid (Zo Z δ') H) := hid_sub fun a o e z => ⟨e, by
  obtain ⟨z1, z2⟩ := zo_f.mp z
  exact zo_f.mpr ⟨z1, fun m => z2 (h.subset m)⟩⟩
theorem zl_sub {δ' : List SV} (h : (own δ').Sublist (own δ)) : Same (hid (Zl lv Z δ) H) (hid (Zl lv Z δ') H) := by
  unfold Zl
  cases lv with
  | true => exact zo_sub h
  | false => exact Same.refl _
/-- a slot is given something else that is not its own -/
theorem Rel.put {s : SV} (r : Rel K Z H σ δ) (hs : s.adr = []) (h : SvOk K Z (δ.set i s) H (some (some v)) s) : Rel K Z H (σ.set i (some v)) (δ.set i s) := by
  have sub := own_sub hs δ i
  have hz : Same (hid (Zo Z δ) H) (hid (Zo Z (δ.set i s)) H) := zo_sub sub
  refine ⟨by rw [List.length_set, List.length_set]; exact r.len, fun j t hj => ?_, r.nd.sublist sub, fun p hp => r.off p (sub.subset hp)⟩
  by_cases e : i = j
  · subst e
    have hl : i < δ.length := by
      have := (List.getElem?_eq_some_iff.mp hj).1
      rwa [List.length_set] at this
    rw [List.getElem?_set_self hl] at hj
    cases hj
    rw [List.getElem?_set_self (by rw [r.len]; exact hl)]
    exact h
  · rw [List.getElem?_set_ne e] at hj
    rw [List.getElem?_set_ne e]
    have h := r.ok j t hj
    cases t with
    | u => trivial
    | d d =>
      obtain ⟨v, h1, h2⟩ := h
      exact ⟨v, h1, h2.same hz⟩
    | b d => exact h
    | v v => exact h
    | o p ov => exact ⟨h.1, h.2.mono hz fun _ _ _ e => e⟩
theorem Rel.putD (r : Rel K Z H σ δ) (h : Dv K (hid (Zo Z δ) H) v d) : Rel K Z H (σ.set i (some v)) (δ.set i (.d d)) := r.put rfl ⟨v, rfl, h.same (zo_sub (own_sub rfl δ i))⟩
/-- what a slot holds behind a reading -/
def sl (lv : Bool) (d : PyData) : SV := if lv = true then .d d else .b d
theorem Rel.putL (r : Rel K Z H σ δ) (h : Dv K (hid (Zl lv Z δ) H) v d) : Rel K Z H (σ.set i (some v)) (δ.set i (sl lv d)) := by
  cases lv with
  | true => exact r.putD h
  | false => exact r.put rfl ⟨v, rfl, h⟩
theorem sl_adr : (sl lv d).adr = [] := by cases lv <;> rfl
theorem Rel.wipe {vs : List Nat} (r : Rel K Z H σ δ) (hu : vs.all (fun j => (δ.getD j .u).isU) = true) : Rel K Z H (L2.wipe σ vs) δ := by
  refine ⟨by rw [wipe_length]; exact r.len, fun j t hj => ?_, r.nd, r.off⟩
  rw [wipe_at]
  by_cases z : j ∈ vs
  · have h1 := List.all_eq_true.mp hu j z
    rw [List.getD_eq_getElem?_getD, hj] at h1
    cases t with
    | u => trivial
    | _ => cases h1
  · rw [if_neg z]
    exact r.ok j t hj
theorem hz_sub {Z' : Zs} {H' : Hp} (e : ∀ b o, H b = some o → Z b = false → H' b = some o) (hz : ∀ a, Z' a = true → Z a = true ∨ H a = none) : Same (hid Z H) (hid Z' H') := hid_sub fun b o h z => ⟨e _ _ h z, by
  cases q : Z' b with
  | false => rfl
  | true =>
    rcases hz b q with w | w
    · rw [z] at w; cases w
    · rw [w] at h; cases h⟩
/-- more is hidden, in a heap that has more -/
theorem Rel.hide {Z' : Zs} {H' : Hp} (r : Rel K Z H σ δ) (e : ∀ b o, H b = some o → Z b = false → H' b = some o) (hz : ∀ a, Z' a = true → Z a = true ∨ H a = none) (a : Al Z H) : Rel K Z' H' σ δ := by
  have alo := r.alo a
  have hb : Same (hid Z H) (hid Z' H') := hz_sub e hz
  have hs : Same (hid (Zo Z δ) H) (hid (Zo Z' δ) H') := hz_sub (fun b o h z => e b o h (zo_f.mp z).1) fun b h => by
    unfold Zo at h ⊢
    rcases Bool.or_eq_true_iff.mp h with w | w
    · exact (hz b w).imp (fun w => by rw [w]; rfl) id
    · exact .inl (by rw [w, Bool.or_true])
  refine ⟨r.len, fun i s hi => ?_, r.nd, fun p hp => ?_⟩
  · have h := r.ok i s hi
    cases s with
    | u => trivial
    | d d =>
      obtain ⟨v, h1, h2⟩ := h
      exact ⟨v, h1, h2.same hs⟩
    | b d =>
      obtain ⟨v, h1, h2⟩ := h
      exact ⟨v, h1, h2.same hb⟩
    | v v => exact h
    | o p ov => exact ⟨h.1, h.2.mono hs fun b o ha hb => e b o hb (r.off b (own_in hi ha))⟩
  · cases q : Z' p with
    | false => rfl
    | true =>
      rcases hz p q with w | w
      · rw [r.off p hp] at w; cases w
      · exact absurd w (alo p (by unfold Zo; rw [decide_eq_true hp, Bool.or_true]))
end
/-! ### targets -/
section
variable (K : PySem.W.Frag) (lv : Bool)
def Tg (δ : List SV) (vs : List Nat) (g : TG) (d : PyData) (δ' : List SV) : Prop := ∀ (Z : Zs) (H : Hp) (σ : L2.St) (x : V), Al Z H → Rel K Z H σ δ → Dv K (hid (Zl lv Z δ) H) x d → ∀ Q : L2.St → Hp → Prop, (∀ σ', Rel K Z H σ' δ' → L2.wipe σ' vs = L2.wipe σ vs → Q σ' H) → g x σ H Q
def Tgs (δ : List SV) (vs : List Nat) (g : TGs) (ds : List PyData) (δ' : List SV) : Prop := ∀ (Z : Zs) (H : Hp) (σ : L2.St) (xs : List V), Al Z H → Rel K Z H σ δ → Dvs K (hid (Zl lv Z δ) H) xs ds → ∀ Q : L2.St → Hp → Prop, (∀ σ', Rel K Z H σ' δ' → L2.wipe σ' vs = L2.wipe σ vs → Q σ' H) → g xs σ H Q
end
section
variable {K : PySem.W.Frag} {lv : Bool} {δ δ1 δ2 : List SV} {vs : List Nat} {d : PyData} {ds : List PyData} {i n : Nat} {g : TG} {gs : TGs}
theorem tg_name (h : i ∈ vs) : Tg K lv δ vs (gName i) d (δ.set i (sl lv d)) := fun Z H σ x al r hx Q q => q _ (r.putL hx) (wipe_set h)
theorem tgs_nil : Tgs K lv δ vs gNil [] δ := fun Z H σ xs al r hx Q q => by
  cases hx
  exact ⟨rfl, q _ r rfl⟩
theorem tgs_cons (h : Tg K lv δ vs g d δ1) (h2 : Tgs K lv δ1 vs gs ds δ2) (ho : (own δ1).Sublist (own δ)) : Tgs K lv δ vs (gCons g gs) (d :: ds) δ2 := fun Z H σ x al r hx Q q => by
  cases hx with
  | cons a b =>
    exact ⟨_, _, rfl, h Z H σ _ al r a _ fun σ1 r1 w1 => h2 Z H σ1 _ al r1 (b.same (zl_sub ho)) _ fun σ2 r2 w2 => q σ2 r2 (w2.trans w1)⟩
theorem tg_tup (h : Tgs K lv δ vs gs ds δ1) (hn : ds.length = n) : Tg K lv δ vs (gTup K n gs) (.tuple ds) δ1 := fun Z H σ x al r hx Q q => by
  obtain ⟨a, xs, rfl, ha, hxs⟩ := hx.tuple
  exact ⟨a, xs, rfl, same_tup hid_out ha, by rw [hxs.len]; exact hn, h Z H σ xs al r hxs Q q⟩
end
/-! ### walks -/
/-- what stood and is not hidden stands -/
def Kp (Z : Zs) (H H' : Hp) : Prop := ∀ b o, H b = some o → Z b = false → H' b = some o
def Stb (st : Bool) (Z : Zs) (H H' : Hp) : Prop := if st = true then Kp Z H H' else Same H H'
theorem Stb.kp {st : Bool} {Z : Zs} {H H' : Hp} (h : Stb st Z H H') : Kp Z H H' := by
  unfold Stb at h
  cases st with
  | true => exact h
  | false => exact fun b o e _ => h b o e
theorem Stb.of {st : Bool} {Z : Zs} {H H' : Hp} (h : Same H H') : Stb st Z H H' := by
  unfold Stb
  cases st with
  | true => exact fun b o e _ => h b o e
  | false => exact h
structure Jd (K : PySem.W.Frag) (J : It) (ds : List PyData) (st : Bool) (Z0 : Zs) (H1 : Hp) : Prop where
  go : ∀ i H, Stb st Z0 H1 H → i < ds.length → J.go i H
  yld : ∀ i H x H' d, Stb st Z0 H1 H → ds[i]? = some d → J.yld i H x H' → Same H H' ∧ ∀ Z, (∀ a, Z a = true → Z0 a = true ∨ H1 a = none) → Al Z H → Dv K (hid Z H') x d
  stop : ∀ i H, Stb st Z0 H1 H → ds.length ≤ i → J.stop i H
theorem Kp.hid {Z0 Z : Zs} {H1 H : Hp} (k : Kp Z0 H1 H) (hz : ∀ a, Z a = true → Z0 a = true ∨ H1 a = none) : Same (hid Z0 H1) (hid Z H) := hid_sub fun a o e z => ⟨k a o e z, by
  cases q : Z a with
  | false => rfl
  | true =>
    rcases hz a q with w | w
    · rw [z] at w; cases w
    · rw [w] at e; cases e⟩
def EvI (K : PySem.W.Frag) (lv st : Bool) (δ : List SV) (ti : TI) (ds : List PyData) : Prop := ∀ (Z : Zs) (H : Hp) (σ : L2.St), Al Z H → Rel K Z H σ δ → ∀ R : It → Hp → Prop, (∀ J H', Same H H' → Jd K J ds st (Zl lv Z δ) H' → R J H') → ti σ H R
section
variable {K : PySem.W.Frag} {Z : Zs} {H : Hp} {a b : Addr} {xs ys : List V} {ds es : List PyData} {st : Bool}
theorem seq_inj {a : Addr} {H : Hp} {xs ys : List V} (h : H a = some (.lst xs)) (h2 : H a = some (.lst ys)) : xs = ys := by
  rw [h] at h2
  cases h2
  rfl
theorem jd_lst (hs : ∀ H', Stb st Z H H' → SqL K H' a xs) (h : Dvs K (hid Z H) xs ds) : Jd K (Itl K a) ds st Z H where
  go := fun i H' s hi => ⟨xs, xs[i]'(by rw [h.len]; exact hi), hs _ s, List.getElem?_eq_getElem _⟩
  yld := fun i H' x H'' d s hi y => by
    obtain ⟨rfl, y2⟩ := y
    refine ⟨Same.refl _, fun Z' hz al => ?_⟩
    obtain ⟨v, h1, h2⟩ := h.get hi
    rw [y2 xs (hs _ s)] at h1
    cases h1
    exact h2.same (s.kp.hid hz)
  stop := fun i H' s hi => ⟨xs, hs _ s, by rw [h.len]; exact hi⟩
theorem same_tupK {H H' : Hp} {Z : Zs} (k : Kp Z H H') (h : SqT K (hid Z H) a xs) : SqT K H' a xs := by
  rcases h with (h | ⟨o, h⟩) | h
  · obtain ⟨h1, h2⟩ := of_hid h
    exact .inl (.inl (k _ _ h1 h2))
  · obtain ⟨h1, h2⟩ := of_hid h
    exact .inl (.inr ⟨o, k _ _ h1 h2⟩)
  · exact .inr h
theorem jd_tup (hs : SqT K (hid Z H) a xs) (h : Dvs K (hid Z H) xs ds) : Jd K (Itt K a) ds st Z H where
  go := fun i H' s hi => ⟨xs, xs[i]'(by rw [h.len]; exact hi), same_tupK s.kp hs, List.getElem?_eq_getElem _⟩
  yld := fun i H' x H'' d s hi y => by
    obtain ⟨rfl, y2⟩ := y
    refine ⟨Same.refl _, fun Z' hz al => ?_⟩
    obtain ⟨v, h1, h2⟩ := h.get hi
    rw [y2 xs (same_tupK s.kp hs)] at h1
    cases h1
    exact h2.same (s.kp.hid hz)
  stop := fun i H' s hi => ⟨xs, same_tupK s.kp hs, by rw [h.len]; exact hi⟩
def rngD (lo : Int) (n : Nat) : List PyData := (List.range n).map fun (i : Nat) => PyData.int (lo + i)
theorem rngD_len (lo : Int) (n : Nat) : (rngD lo n).length = n := by
  unfold rngD
  rw [List.length_map, List.length_range]
theorem jd_rng (lo : Int) (n : Nat) : Jd K (Itr lo n) (rngD lo n) st Z H where
  go := fun i H' s hi => by rw [rngD_len] at hi; exact hi
  yld := fun i H' x H'' d s hi y => by
    obtain ⟨rfl, rfl⟩ := y
    refine ⟨Same.refl _, fun Z' hz al => ?_⟩
    have hl : i < n := by
      have := (List.getElem?_eq_some_iff.mp hi).1
      rwa [rngD_len] at this
    unfold rngD at hi
    rw [List.getElem?_map, List.getElem?_range hl] at hi
    cases hi
    exact .int _
  stop := fun i H' s hi => by rw [rngD_len] at hi; exact hi
def enumD (ds : List PyData) : List PyData := ds.mapIdx fun i d => .tuple [.int (i : Nat), d]
theorem enumD_len (ds : List PyData) : (enumD ds).length = ds.length := by
  unfold enumD
  rw [List.length_mapIdx]
theorem jd_enum (hs : ∀ H', Stb st Z H H' → SqL K H' a xs) (h : Dvs K (hid Z H) xs ds) : Jd K (Ite K a) (enumD ds) st Z H where
  go := fun i H' s hi => by
    rw [enumD_len] at hi
    exact ⟨xs, xs[i]'(by rw [h.len]; exact hi), hs _ s, List.getElem?_eq_getElem _⟩
  yld := fun i H' x H'' d s hi y => by
    obtain ⟨T, x', rfl, hT, rfl, hx⟩ := y
    refine ⟨same_new hT, fun Z' hz al => ?_⟩
    unfold enumD at hi
    rw [List.getElem?_mapIdx] at hi
    obtain ⟨d', hd, rfl⟩ := Option.map_eq_some_iff.mp hi
    obtain ⟨v, h1, h2⟩ := h.get hd
    rw [hx xs (hs _ s)] at h1
    cases h1
    exact .tup (.inl (.inl (hid_new al hT))) (.cons (.int _) (.cons ((h2.same (s.kp.hid hz)).same (same_hid (same_new hT))) .nil))
  stop := fun i H' s hi => by
    rw [enumD_len] at hi
    exact ⟨xs, hs _ s, by rw [h.len]; exact hi⟩
def zipD (ds es : List PyData) : List PyData := (ds.zip es).map fun p => .tuple [p.1, p.2]
theorem jd_zip (hs : ∀ H', Stb st Z H H' → SqL K H' a xs) (h : Dvs K (hid Z H) xs ds) (hs2 : ∀ H', Stb st Z H H' → SqL K H' b ys) (h2 : Dvs K (hid Z H) ys es) : Jd K (Itz K a b) (zipD ds es) st Z H where
  go := fun i H' s hi => by
    unfold zipD at hi
    rw [List.length_map, List.length_zip] at hi
    exact ⟨xs, ys, xs[i]'(by rw [h.len]; omega), ys[i]'(by rw [h2.len]; omega), hs _ s, hs2 _ s, List.getElem?_eq_getElem _, List.getElem?_eq_getElem _⟩
  yld := fun i H' x H'' d s hi y => by
    obtain ⟨T, x', y', rfl, hT, rfl, hx, hy⟩ := y
    refine ⟨same_new hT, fun Z' hz al => ?_⟩
    unfold zipD at hi
    rw [List.getElem?_map] at hi
    obtain ⟨⟨d1, d2⟩, hd, rfl⟩ := Option.map_eq_some_iff.mp hi
    rw [List.getElem?_zip_eq_some] at hd
    obtain ⟨v, g1, g2⟩ := h.get hd.1
    rw [hx xs (hs _ s)] at g1
    cases g1
    obtain ⟨w, k1, k2⟩ := h2.get hd.2
    rw [hy ys (hs2 _ s)] at k1
    cases k1
    exact .tup (.inl (.inl (hid_new al hT))) (.cons ((g2.same (s.kp.hid hz)).same (same_hid (same_new hT))) (.cons ((k2.same (s.kp.hid hz)).same (same_hid (same_new hT))) .nil))
  stop := fun i H' s hi => by
    unfold zipD at hi
    rw [List.length_map, List.length_zip] at hi
    exact ⟨xs, ys, hs _ s, hs2 _ s, by rw [h.len, h2.len]; omega⟩
end
section
variable {K : PySem.W.Frag} {lv : Bool} {δ : List SV} {tl : TE} {ta : TA} {ds es : List PyData} {st : Bool}
theorem evi_list (h : Ev K lv δ tl (.list ds)) : EvI K lv st δ (iList K tl) ds := fun Z H σ al r R q => h Z H σ al r _ fun v H1 e hv => by
  obtain ⟨a, xs, rfl, ha, hx⟩ := hv.list
  obtain ⟨h1, h2⟩ := of_hid ha
  exact ⟨a, rfl, ⟨xs, .inl (.inl h1)⟩, q _ H1 e (jd_lst (fun H' s => .inl (.inl (s.kp _ _ h1 h2))) hx)⟩
theorem evi_tup (h : Ev K lv δ tl (.tuple ds)) : EvI K lv st δ (iTup K tl) ds := fun Z H σ al r R q => h Z H σ al r _ fun v H1 e hv => by
  obtain ⟨a, xs, rfl, ha, hx⟩ := hv.tuple
  exact ⟨a, rfl, ⟨xs, same_tup hid_out ha⟩, q _ H1 e (jd_tup ha hx)⟩
theorem evi_range1 {n : Int} (h : EvA K lv δ ta [.int n]) (h1 : -(2 ^ 62) ≤ n) (h2 : n < 2 ^ 62) : EvI K lv st δ (iRng1 ta) (rngD 0 n.toNat) := fun Z H σ al r R q => h Z H σ al r _ fun vs H1 e hv => by
  cases hv with
  | cons a b =>
    cases b
    cases a
    exact ⟨n, rfl, h1, h2, q _ H1 e (jd_rng _ _)⟩
theorem evi_range2 {m n : Int} (h : EvA K lv δ ta [.int m, .int n]) (h0 : -(2 ^ 62) ≤ m ∧ m < 2 ^ 62 ∧ -(2 ^ 62) ≤ n ∧ n < 2 ^ 62) : EvI K lv st δ (iRng2 ta) (rngD m (n - m).toNat) := fun Z H σ al r R q => h Z H σ al r _ fun vs H1 e hv => by
  cases hv with
  | cons a b =>
    cases b with
    | cons b c =>
      cases c
      cases a
      cases b
      exact ⟨m, n, rfl, h0, q _ H1 e (jd_rng _ _)⟩
theorem evi_enum (h : EvA K lv δ ta [.list ds]) : EvI K lv st δ (iEnum K ta) (enumD ds) := fun Z H σ al r R q => h Z H σ al r _ fun vs H1 e hv => by
  cases hv with
  | cons a b =>
    cases b
    obtain ⟨p, xs, rfl, ha, hx⟩ := a.list
    obtain ⟨h1, h2⟩ := of_hid ha
    exact ⟨p, xs, rfl, .inl (.inl h1), q _ H1 e (jd_enum (fun H' s => .inl (.inl (s.kp _ _ h1 h2))) hx)⟩
theorem evi_zip (h : EvA K lv δ ta [.list ds, .list es]) : EvI K lv st δ (iZip K ta) (zipD ds es) := fun Z H σ al r R q => h Z H σ al r _ fun vs H1 e hv => by
  cases hv with
  | cons a b =>
    cases b with
    | cons b c =>
      cases c
      obtain ⟨p, xs, rfl, ha, hx⟩ := a.list
      obtain ⟨p2, ys, rfl, hb, hy⟩ := b.list
      obtain ⟨h1, h2⟩ := of_hid ha
      obtain ⟨h3, h4⟩ := of_hid hb
      exact ⟨p, p2, xs, ys, rfl, .inl (.inl h1), .inl (.inl h3), q _ H1 e (jd_zip (fun H' s => .inl (.inl (s.kp _ _ h1 h2))) hx (fun H' s => .inl (.inl (s.kp _ _ h3 h4))) hy)⟩
/-! ### comprehensions -/
theorem lcg_jd {J : It} {Z0 : Zs} {H : Hp} {g : TG} {tt : TT} {te : TE} {vs : List Nat} {σ : L2.St} {Q : VK} (hJ : Jd K J ds st Z0 H) (P : Addr → Nat → List V → Hp → Prop) (h0 : ∀ D, H D = none → P D 0 [] (upd H D (.lst [])))
    (hP : ∀ D i acc H', H D = none → i ≤ ds.length → P D i acc H' → Stb st Z0 H H')
    (hs : ∀ D i x d acc H1 H', H D = none → ds[i]? = some d → P D i acc H1 → Same H1 H' → (∀ Z, (∀ a, Z a = true → Z0 a = true ∨ H a = none) → Al Z H1 → Dv K (hid Z H') x d) → g x (L2.wipe σ vs) H' fun σ2 H2 => L2.wipe σ2 vs = L2.wipe σ vs ∧ tt σ2 H2 fun b H3 =>
      if b = true then te σ2 H3 fun y H4 => ∃ acc, H4 D = some (.lst acc) ∧ acc.length < sizeLine ∧ (∃ acc', P D (i + 1) acc' (upd H4 D (.lst (acc ++ [y])))) else ∃ acc', P D (i + 1) acc' H3)
    (hd : ∀ D acc H', H D = none → P D ds.length acc H' → Q (.ref D) H') : LcG J g tt te vs σ H Q := by
  intro D hD
  refine ⟨fun i m H' => m = ds.length - i ∧ i ≤ ds.length ∧ ∃ acc, P D i acc H', ⟨ds.length, by simp, Nat.zero_le _, [], h0 D hD⟩, ?_⟩
  rintro i m H' ⟨rfl, hi, acc, p⟩
  have hS := hP D i acc H' hD hi p
  by_cases hlt : i < ds.length
  · refine .inr ⟨hJ.go i H' hS hlt, fun H'' => ∃ acc, P D (i + 1) acc H'', fun H'' ⟨acc', p'⟩ => ⟨ds.length - (i + 1), by omega, rfl, hlt, acc', p'⟩, fun x H'' y => ?_⟩
    have e := List.getElem?_eq_getElem hlt
    obtain ⟨e1, e2⟩ := hJ.yld i H' x H'' _ hS e y
    exact hs D i x _ acc H' H'' hD e p e1 e2
  · have e : i = ds.length := by omega
    subst e
    exact .inl ⟨hJ.stop _ H' hS (Nat.le_refl _), hd D acc H' hD p⟩
theorem lc_G (ti : TI) (g : TG) (tt : TT) (te : TE) (vs : List Nat) (σ : L2.St) (H : Hp) (Q : VK) : tLc ti g tt te vs σ H Q = ti σ H fun J H1 => LcG J g tt te vs σ H1 Q := rfl
def addZ (Z : Zs) (D : Addr) : Zs := fun a => Z a || decide (a = D)
theorem addZ_t {Z : Zs} {D a : Addr} (h : addZ Z D a = true) : Z a = true ∨ a = D := by
  unfold addZ at h
  rcases Bool.or_eq_true_iff.mp h with h | h
  · exact .inl h
  · exact .inr (of_decide_eq_true h)
theorem addZ_f {Z : Zs} {D a : Addr} (h : Z a = false) (n : a ≠ D) : addZ Z D a = false := by
  unfold addZ
  rw [h, decide_eq_false n]
  rfl
theorem zl_add {lv : Bool} {Z Z' : Zs} {δ : List SV} {H : Hp} (hz : ∀ b, Z' b = true → Z b = true ∨ H b = none) : ∀ b, Zl lv Z' δ b = true → Zl lv Z δ b = true ∨ H b = none := fun b hb => by
  unfold Zl at hb ⊢
  cases lv with
  | false => exact hz b hb
  | true =>
    simp only [if_true] at hb ⊢
    unfold Zo at hb ⊢
    rcases Bool.or_eq_true_iff.mp hb with w | w
    · exact (hz b w).imp (fun w => by rw [w]; rfl) id
    · exact .inl (by rw [w, Bool.or_true])
theorem zl_back {lv : Bool} {Z : Zs} {D : Addr} {δ : List SV} {H : Hp} : Same (hid (Zl lv (addZ Z D) δ) H) (hid (Zl lv Z δ) H) := hid_sub fun b o hb z => ⟨hb, by
  have sub : ∀ a, Z a = true → addZ Z D a = true := fun a h => by unfold addZ; rw [h]; rfl
  unfold Zl at z ⊢
  cases lv with
  | false =>
    simp only [Bool.false_eq_true, if_false] at z ⊢
    cases q : Z b with
    | false => rfl
    | true => rw [sub b q] at z; cases z
  | true =>
    simp only [if_true] at z ⊢
    obtain ⟨z1, z2⟩ := zo_f.mp z
    refine zo_f.mpr ⟨?_, z2⟩
    cases q : Z b with
    | false => rfl
    | true => rw [sub b q] at z1; cases z1⟩
theorem ev_lc {α : Type} {ti : TI} {g : TG} {tt : TT} {te : TE} {vs : List Nat} {dat : α → PyData} {fb : α → Bool} {fv : α → PyData} {as : List α} (hi : EvI K lv st δ ti (as.map dat)) (hu : vs.all (fun j => (δ.getD j .u).isU) = true) (hn : as.length < 100000)
    (hs : ∀ a, a ∈ as → ∃ δ', own δ' = own δ ∧ Tg K lv δ vs g (dat a) δ' ∧ EvB K δ' tt (fb a) ∧ (fb a = true → Ev K lv δ' te (fv a))) : Ev K lv δ (tLc ti g tt te vs) (.list ((as.filter fb).map fv)) := fun Z H σ al r Q q => by
  rw [lc_G]
  refine hi Z H σ al r _ fun J H1 e1 jd => ?_
  have al1 := al.same e1
  have r1 := r.same e1
  refine lcg_jd jd (fun D i acc H' => Same H1 H' ∧ H' D = some (.lst acc) ∧ Dvs K (hid (Zl lv (addZ Z D) δ) H') acc (((as.take i).filter fb).map fv)) (fun D hD => ⟨same_new hD, upd_same, .nil⟩) (fun D i acc H' _ _ p => Stb.of p.1) (fun D i x d acc H2 H' hD hd p e2 hx => ?_) (fun D acc H' hD p => ?_)
  · obtain ⟨p1, p2, p3⟩ := p
    rw [List.getElem?_map] at hd
    obtain ⟨a, ha, rfl⟩ := Option.map_eq_some_iff.mp hd
    have hil : i < as.length := (List.getElem?_eq_some_iff.mp ha).1
    obtain ⟨δ', ho, htg, htt, hte⟩ := hs a (List.mem_of_getElem? ha)
    have hZ : ∀ b, addZ Z D b = true → Z b = true ∨ H1 b = none := fun b hb => (addZ_t hb).imp id fun w => by rw [w]; exact hD
    have al2 : Al (addZ Z D) H2 := fun b hb => by
      rcases addZ_t hb with w | w
      · exact al1.same p1 b w
      · rw [w, p2]; intro z; cases z
    have r2 : Rel K (addZ Z D) H' (L2.wipe σ vs) δ := (r1.hide (fun b o h _ => p1.trans e2 b o h) hZ al1).wipe hu
    have hx2 : Dv K (hid (Zl lv (addZ Z D) δ) H') x (dat a) := hx (Zl lv (addZ Z D) δ) (fun b hb => by
      exact zl_add hZ b hb) ((r1.hide (fun b o h _ => p1 b o h) hZ al1).all al2 lv)
    refine htg (addZ Z D) H' (L2.wipe σ vs) x (al2.same e2) r2 hx2 _ fun σ2 r3 w3 => ⟨w3.trans wipe_wipe, ?_⟩
    refine htt (addZ Z D) H' σ2 (al2.same e2) r3 _ fun H3 e3 => ?_
    have p23 : Same H2 H3 := e2.trans e3
    have tk : (((as.take (i + 1)).filter fb).map fv) = ((as.take i).filter fb).map fv ++ (if fb a = true then [fv a] else []) := by
      rw [List.take_add_one, ha, List.filter_append, List.map_append]
      cases h : fb a with
      | true => simp [h]
      | false => simp [h]
    split
    · rename_i hb
      refine hte hb (addZ Z D) H3 σ2 (al2.same p23) (r3.same e3) _ fun v H4 e4 hv => ?_
      have p24 : Same H2 H4 := p23.trans e4
      refine ⟨acc, p24 _ _ p2, ?_, acc ++ [v], Same.mut (p1.trans p24) hD, upd_same, ?_⟩
      · refine Nat.lt_of_lt_of_le (Nat.lt_of_le_of_lt (?_ : _ ≤ as.length) hn) (by decide)
        rw [p3.len, List.length_map]
        exact Nat.le_trans (List.length_filter_le _ _) (by rw [List.length_take]; exact Nat.min_le_right _ _)
      · rw [tk, if_pos hb]
        have hz : Zl lv (addZ Z D) δ' = Zl lv (addZ Z D) δ := by unfold Zl Zo; rw [ho]
        rw [hz] at hv
        have mv : ∀ {H5 : Hp}, Same (hid (Zl lv (addZ Z D) δ) H5) (hid (Zl lv (addZ Z D) δ) (upd H5 D (.lst (acc ++ [v])))) := fun {H5} => hid_sub fun b o hb z => by
          refine ⟨?_, z⟩
          rw [upd_ne]
          · exact hb
          · intro w
            have := zl_out z
            rw [w] at this
            unfold addZ at this
            rw [decide_eq_true rfl, Bool.or_true] at this
            cases this
        exact ((p3.same (same_hid p24)).same mv).app (.cons (hv.same mv) .nil)
    · rename_i hb
      refine ⟨acc, p1.trans p23, p23 _ _ p2, ?_⟩
      rw [tk, if_neg hb, List.append_nil]
      exact p3.same (same_hid p23)
  · obtain ⟨p1, p2, p3⟩ := p
    rw [List.length_map, List.take_length] at p3
    have hz : Same (hid (Zl lv (addZ Z D) δ) H') (hid (Zl lv Z δ) H') := zl_back
    have alD : Zl lv Z δ D = false := ((r1.all al1 lv)).off hD
    exact q _ H' (e1.trans p1) (.lst (hid_in p2 alD) (p3.same hz))
end
end Fd

/-! calls, draws, statements, as data -/
namespace Fd
open PySem PySem.Spec PyProof.Rows L2 Fp
/-! ### promises about data -/
def spV (K : PySem.W.Frag) (F : List PyData → PyData → Prop) : Sp := fun vs H Q _ => ∃ (Z : Zs) (ds : List PyData) (d : PyData), Al Z H ∧ Dvs K (hid Z H) vs ds ∧ F ds d ∧ ∀ v H', Same H H' → Dv K (hid Z H') v d → Q v H'
/-- with a pen ahead: P what is handed in, and how many draws at most; R what may come back -/
def spW (K : PySem.W.Frag) (P : List PyData → Nat → Prop) (R : List PyData → PyData → Prop) : Sp := fun vs H Q _ => ∃ (p c : Addr) (Z : Zs) (t n : Nat) (rest : List V) (ds : List PyData), vs = .ref p :: rest ∧ Z p = true ∧ Z c = true ∧ Al Z H ∧ Dvs K (hid Z H) rest ds ∧
  PenOk H p c t ∧ P ds n ∧ t + n ≤ 1000000000 ∧ ∀ v d H', Frm (fun a => decide (a = p)) H H' → PenOk H' p c (t + n) → R ds d → Dv K (hid Z H') v d → Q v H'
section
variable {K : PySem.W.Frag} {lv : Bool} {δ : List SV} {ta te tb : TE} {tr : TA} {tt : TT} {d x : PyData} {ds es : List PyData} {F : List PyData → PyData → Prop} {i : Nat}
theorem ev_call (h : EvA K lv δ tr ds) (hF : F ds d) : Ev K lv δ (tCall (spV K F) [] E0 tr) d := fun Z H σ al r Q q => h Z H σ al r _ fun vs H1 e1 hv => by
  rw [List.append_nil]
  exact ⟨Zl lv Z δ, ds, d, (r.all al lv).same e1, hv, hF, fun v H2 e2 hv2 => q v H2 (e1.trans e2) hv2⟩
end
/-! ### with draws -/
/-- the pen, its cells, the tables of code objects that may grow -/
abbrev Wd := Option (Addr × Addr × List NdefX.NTab)
def Mw : Wd → Zs
  | none => fun _ => false
  | some (p, c) => fun a => decide (a = p) || decide (a ∈ c.2.map (·.1))
def Iw (W : Wd) (t : Nat) (H : Hp) : Prop := match W with
  | none => True
  | some (p, c) => PenOk H p c.1 t ∧ NdefX.TabsN c.2 H
theorem Iw.same {W : Wd} {t : Nat} {H H' : Hp} (h : Iw W t H) (e : Same H H') : Iw W t H' := by
  cases W with
  | none => trivial
  | some pc => exact ⟨PenOk.same h.1 e, h.2.ext e⟩
theorem Iw.mono {W : Wd} {t t' : Nat} {H : Hp} (h : Iw W t H) (e : t ≤ t') : Iw W t' H := by
  cases W with
  | none => trivial
  | some pc => exact ⟨PenOk.mono h.1 e, h.2⟩
theorem mw_p {p : Addr} {c : Addr × List NdefX.NTab} : Mw (some (p, c)) p = true := by show (decide (p = p) || _) = true; rw [decide_eq_true rfl]; rfl
theorem mw_t {p P : Addr} {c : Addr × List NdefX.NTab} (h : P ∈ c.2.map (·.1)) : Mw (some (p, c)) P = true := by show (_ || decide (P ∈ _)) = true; rw [decide_eq_true h, Bool.or_true]
theorem mw_f {a p : Addr} {c : Addr × List NdefX.NTab} (h : Mw (some (p, c)) a = false) : a ≠ p ∧ a ∉ c.2.map (·.1) := ⟨fun w => (by rw [w, mw_p] at h; cases h), fun w => (by rw [mw_t w] at h; cases h)⟩
theorem mw_nil {a p c : Addr} (h : decide (a = p) = false) : Mw (some (p, c, [])) a = false := by show (decide (a = p) || decide (a ∈ ([] : List Addr))) = false; rw [h]; simp
theorem hd_nil {a p c : Addr} {Z : Zs} (zp : Z p = true) (h : Mw (some (p, c, [])) a = true) : Z a = true := by
  by_cases e : a = p
  · rw [e]; exact zp
  · rw [mw_nil (decide_eq_false e)] at h; cases h
theorem codeO_pen {a : Addr} {q : Str} {kvs : List (Key × V)} : HO.dK kvs ≠ LamX.CodeO a q := fun z => by unfold LamX.CodeO at z; cases z
/-- a heap where all but one thing stays has the tables still, if that thing is none of theirs -/
theorem tabs_kept {T : List NdefX.NTab} {H H' : Hp} {p : Addr} {o : HO} (t : NdefX.TabsN T H) (hp : H p = some o) (ht : p ∉ T.map (·.1)) (hn : ∀ q, o ≠ LamX.CodeO p q) (k : ∀ b u, H b = some u → b ≠ p → H' b = some u) : NdefX.TabsN T H' := fun x hx => by
  obtain ⟨ps, h1, h2, h3⟩ := t x hx
  refine ⟨ps, k _ _ h1 (fun w => ht (w ▸ List.mem_map.mpr ⟨x, hx, rfl⟩)), h2, fun pos cv hc => ?_⟩
  obtain ⟨c, e1, e2⟩ := h3 pos cv hc
  exact ⟨c, e1, k _ _ e2 fun w => by subst w; exact hn _ (Option.some.inj (hp.symm.trans e2))⟩
theorem tabs_pen {T : List NdefX.NTab} {H H' : Hp} {p c : Addr} {t : Nat} (pk : PenOk H p c t) (t' : NdefX.TabsN T H) (k : ∀ b u, H b = some u → b ≠ p → H' b = some u) : NdefX.TabsN T H' := by
  obtain ⟨kvs, hp⟩ := pk.dict
  refine tabs_kept t' hp (fun w => ?_) (fun q => codeO_pen) k
  obtain ⟨x, hx, e⟩ := List.mem_map.mp w
  obtain ⟨ps, h1, _⟩ := t' x hx
  rw [e, hp] at h1
  cases h1
/-- the pen is hidden -/
structure Hd (W : Wd) (Z : Zs) : Prop where
  m : ∀ a, Mw W a = true → Z a = true
  c : ∀ pc, W = some pc → Z pc.2.1 = true
theorem Hd.sub {W : Wd} {Z Z' : Zs} (h : Hd W Z) (s : ∀ a, Z a = true → Z' a = true) : Hd W Z' := ⟨fun a x => s a (h.m a x), fun pc x => s _ (h.c pc x)⟩
section
variable (K : PySem.W.Frag) (lv : Bool)
def Ex (W : Wd) (δ : List SV) (te : TE) (n : Nat) (R : PyData → Prop) : Prop := ∀ (Z : Zs) (H : Hp) (σ : L2.St) (t : Nat), Hd W Z → Al Z H → Rel K Z H σ δ → Iw W t H → t + n ≤ 1000000000 →
  ∀ Q : VK, (∀ v d H', Frm (Mw W) H H' → Iw W (t + n) H' → R d → Dv K (hid (Zl lv Z δ) H') v d → Q v H') → te σ H Q
def ExA (W : Wd) (δ : List SV) (ta : TA) (n : Nat) (R : List PyData → Prop) : Prop := ∀ (Z : Zs) (H : Hp) (σ : L2.St) (t : Nat), Hd W Z → Al Z H → Rel K Z H σ δ → Iw W t H → t + n ≤ 1000000000 →
  ∀ Q : List V → Hp → Prop, (∀ vs ds H', Frm (Mw W) H H' → Iw W (t + n) H' → R ds → Dvs K (hid (Zl lv Z δ) H') vs ds → Q vs H') → ta σ H Q
end
section
variable {K : PySem.W.Frag} {lv : Bool} {W : Wd} {δ δ1 : List SV} {ta te tb ts : TE} {tr : TA} {tt : TT} {d x : PyData} {ds es : List PyData} {i m n : Nat} {R R' : PyData → Prop} {RA : List PyData → Prop} {p : Addr} {c : Addr × List NdefX.NTab} {s : Int}
theorem mz_o {lv : Bool} {W : Wd} {Z : Zs} {δ : List SV} (mz : ∀ a, Mw W a = true → Z a = true) : ∀ a, Mw W a = true → Zl lv Z δ a = true := fun a h => zl_in (mz a h)
theorem Ev.ex (h : Ev K lv δ te d) : Ex K lv W δ te 0 (fun x => x = d) := fun Z H σ t mz al r iw ht Q q => h Z H σ al r Q fun v H' e hv => q v d H' (Frm.of e) (iw.same e) rfl hv
theorem EvA.ex (h : EvA K lv δ tr ds) : ExA K lv W δ tr 0 (fun x => x = ds) := fun Z H σ t mz al r iw ht Q q => h Z H σ al r Q fun v H' e hv => q v ds H' (Frm.of e) (iw.same e) rfl hv
theorem Ex.imp (h : Ex K lv W δ te m R) (hm : m ≤ n) (hr : ∀ d, R d → R' d) : Ex K lv W δ te n R' := fun Z H σ t mz al r iw ht Q q => h Z H σ t mz al r iw (by omega) Q fun v d H' f i rd hv => q v d H' f (i.mono (by omega)) (hr d rd) hv
theorem ex_op {r : R2} {S : PyData → PyData → Prop} {T : PyData → Prop} (ha : Ex K lv W δ ta m R) (hb : ∀ x, R x → Ex K lv W δ tb n (S x)) (hr : ∀ x y, R x → S x y → ∃ d, R2d K r x y d ∧ T d) : Ex K lv W δ (tOp r ta tb) (m + n) T := fun Z H σ t mz al re iw ht Q q =>
  ha Z H σ t mz al re iw (by omega) _ fun v x H1 f1 i1 rx hv => hb x rx Z H1 σ (t + m) mz (f1.alz al) (re.frm f1 mz.m) i1 (by omega) _ fun w y H2 f2 i2 ry hw => by
    obtain ⟨d, h1, h2⟩ := hr x y rx ry
    have al2 : Al (Zl lv Z δ) H2 := (re.frm (f1.trans f2) mz.m).all ((f1.trans f2).alz al) lv
    refine h1 (Zl lv Z δ) H2 v w al2 (hv.same (f2.hid (mz_o mz.m))) hw _ fun u H3 e3 hu => q u d H3 ((f1.trans f2).trans (Frm.of e3)) ?_ h2 hu
    rw [← Nat.add_assoc]
    exact i2.same e3
theorem exa_nil : ExA K lv W δ tNil 0 (fun ds => ds = []) := eva_nil.ex
theorem exa_cons {S : PyData → List PyData → Prop} (ha : Ex K lv W δ ta m R) (hb : ∀ d, R d → ExA K lv W δ tr n (S d)) : ExA K lv W δ (tCons ta tr) (m + n) (fun ds => ∃ d r, ds = d :: r ∧ R d ∧ S d r) := fun Z H σ t mz al re iw ht Q q =>
  ha Z H σ t mz al re iw (by omega) _ fun v x H1 f1 i1 rx hv => hb x rx Z H1 σ (t + m) mz (f1.alz al) (re.frm f1 mz.m) i1 (by omega) _ fun vs ds H2 f2 i2 ry hw => by
    refine q _ (x :: ds) H2 (f1.trans f2) ?_ ⟨x, ds, rfl, rx, ry⟩ (.cons (hv.same (f2.hid (mz_o mz.m))) hw)
    rw [← Nat.add_assoc]
    exact i2
theorem ExA.imp {RB : List PyData → Prop} (h : ExA K lv W δ tr m RA) (hm : m ≤ n) (hr : ∀ d, RA d → RB d) : ExA K lv W δ tr n RB := fun Z H σ t mz al r iw ht Q q => h Z H σ t mz al r iw (by omega) Q fun v d H' f i rd hv => q v d H' f (i.mono (by omega)) (hr d rd) hv
theorem ex_tup (h : ExA K lv W δ tr n RA) (hl : ∀ ds, RA ds → ds.length ≤ 1000) : Ex K lv W δ (tTup tr) n (fun d => ∃ ds, d = .tuple ds ∧ RA ds) := fun Z H σ t mz al re iw ht Q q =>
  h Z H σ t mz al re iw ht _ fun vs ds H1 f1 i1 rd hv => ⟨Nat.le_of_lt (small1000 (by rw [hv.len]; exact hl ds rd)), fun p hp => q _ _ _ (f1.trans (Frm.of (same_new hp))) (i1.same (same_new hp)) ⟨ds, rfl, rd⟩
    (.tup (.inl (.inl (hid_new ((re.frm f1 mz.m).all (f1.alz al) lv) hp))) (hv.same (same_hid (same_new hp))))⟩
theorem ex_lst (h : ExA K lv W δ tr n RA) (hl : ∀ ds, RA ds → ds.length ≤ 1000) : Ex K lv W δ (tLst tr) n (fun d => ∃ ds, d = .list ds ∧ RA ds) := fun Z H σ t mz al re iw ht Q q =>
  h Z H σ t mz al re iw ht _ fun vs ds H1 f1 i1 rd hv => ⟨Nat.le_of_lt (small1000 (by rw [hv.len]; exact hl ds rd)), fun p hp => q _ _ _ (f1.trans (Frm.of (same_new hp))) (i1.same (same_new hp)) ⟨ds, rfl, rd⟩
    (.lst (hid_new ((re.frm f1 mz.m).all (f1.alz al) lv) hp) (hv.same (same_hid (same_new hp))))⟩
theorem ex_call {F : List PyData → PyData → Prop} {T : PyData → Prop} (h : ExA K lv W δ tr n RA) (hF : ∀ ds, RA ds → ∃ d, F ds d ∧ T d) : Ex K lv W δ (tCall (spV K F) [] E0 tr) n T := fun Z H σ t mz al re iw ht Q q =>
  h Z H σ t mz al re iw ht _ fun vs ds H1 f1 i1 rd hv => by
    rw [List.append_nil]
    obtain ⟨d, h1, h2⟩ := hF ds rd
    exact ⟨Zl lv Z δ, ds, d, (re.frm f1 mz.m).all (f1.alz al) lv, hv, h1, fun v H2 e2 hv2 => q v d H2 (f1.trans (Frm.of e2)) (i1.same e2) h2 hv2⟩
theorem ex_cb {ra : List V → Hp → VK → Prop} {T : PyData → Prop} (h : ExA K lv W δ tr n RA) (hr : ∀ ds, RA ds → ∃ d, RAd K ra ds d ∧ T d) : Ex K lv W δ (tCB ra tr) n T := fun Z H σ t mz al re iw ht Q q =>
  h Z H σ t mz al re iw ht _ fun vs ds H1 f1 i1 rd hv => by
    obtain ⟨d, h1, h2⟩ := hr ds rd
    exact h1 (Zl lv Z δ) H1 vs ((re.frm f1 mz.m).all (f1.alz al) lv) hv _ fun u H2 e2 hu => q u d H2 (f1.trans (Frm.of e2)) (i1.same e2) h2 hu
theorem ex_draw (hp : δ[i]? = some (.v (.ref p))) (h : Ex K lv (some (p, c)) δ ts m R) (hs : ∀ d, R d → ∃ s : Int, d = .int s ∧ 0 < s ∧ s.natAbs.log2 < 9000) :
    Ex K lv (some (p, c)) δ (tCall spDraw [] E0 (tCons (tVar i) (tCons ts tNil))) (m + 1) (fun d => ∃ s r : Int, R (.int s) ∧ d = .int r ∧ 0 ≤ r ∧ r < s) := fun Z H σ t mz al re iw ht Q q => by
  refine ⟨_, re.ok i _ hp, h Z H σ t mz al re iw (by omega) _ fun v d H1 f1 i1 rd hv => ?_⟩
  obtain ⟨s, rfl, h1, h2⟩ := hs d rd
  obtain rfl := hv.num
  refine ⟨p, c.1, s, t + m, rfl, i1.1, by omega, h1, h2, fun r H2 r0 r1 P2 b2 => ?_⟩
  refine q _ (.int r) H2 (f1.trans ⟨fun b o hb n => b2.1 b o hb ?_, fun b hb => ?_⟩) ⟨P2, tabs_pen i1.1 i1.2 b2.1⟩ ⟨s, r, rd, rfl, r0, r1⟩ (.int r)
  · intro z
    exact (mw_f n).1 z
  · by_cases z : b = p
    · subst z
      exact b2.2 hb
    · cases e : H1 b with
      | none => exact absurd e hb
      | some o => rw [b2.1 b o e z]; intro w; cases w
theorem ex_draw1 (hp : δ[i]? = some (.v (.ref p))) (h : Ev K lv δ ts (.int s)) (h1 : 0 < s) (h2 : s.natAbs.log2 < 9000) :
    Ex K lv (some (p, c)) δ (tCall spDraw [] E0 (tCons (tVar i) (tCons ts tNil))) 1 (fun d => ∃ r : Int, d = .int r ∧ 0 ≤ r ∧ r < s) :=
  (ex_draw hp h.ex fun d e => ⟨s, e, h1, h2⟩).imp (Nat.le_refl _) fun d ⟨s', r, e, e2, a, b⟩ => by
    cases e
    exact ⟨r, e2, a, b⟩
theorem ex_callW {P : List PyData → Nat → Prop} {S : List PyData → PyData → Prop} (hp : δ[i]? = some (.v (.ref p))) (h : ExA K lv (some (p, c)) δ tr m RA) (hP : ∀ ds, RA ds → P ds n) :
    Ex K lv (some (p, c)) δ (tCall (spW K P S) [] E0 (tCons (tVar i) tr)) (m + n) (fun d => ∃ ds, RA ds ∧ S ds d) := fun Z H σ t mz al re iw ht Q q => by
  refine ⟨_, re.ok i _ hp, h Z H σ t mz al re iw (by omega) _ fun vs ds H1 f1 i1 rd hv => ?_⟩
  have zp : Z p = true := mz.m p mw_p
  refine ⟨p, c.1, Zl lv Z δ, t + m, n, vs, ds, by simp, zl_in zp, zl_in (mz.c _ rfl), (re.frm f1 mz.m).all (f1.alz al) lv, hv, i1.1, hP ds rd, by omega, fun v d H2 f2 i2 sd hv2 => ?_⟩
  refine q v d H2 (f1.trans ⟨fun b o hb m => f2.keep b o hb (decide_eq_false (mw_f m).1), f2.al⟩) ?_ ⟨ds, rd, sd⟩ hv2
  rw [← Nat.add_assoc]
  exact ⟨i2, tabs_pen i1.1 i1.2 fun b o hb n => f2.keep b o hb (decide_eq_false n)⟩
/-- the items drawn: R tells what each may be -/
theorem ex_lc {α : Type} {ti : TI} {g : TG} {vs : List Nat} {dat : α → PyData} {as : List α} {RI : α → PyData → Prop} (hi : EvI K lv true δ ti (as.map dat)) (hu : vs.all (fun j => (δ.getD j .u).isU) = true) (hn : as.length < 100000)
    (hs : ∀ a, a ∈ as → ∃ δ', own δ' = own δ ∧ Tg K lv δ vs g (dat a) δ' ∧ Ex K lv W δ' te n (RI a)) : Ex K lv W δ (tLc ti g tYes te vs) (n * as.length) (fun d => ∃ ds, d = .list ds ∧ ds.length = as.length ∧ ∀ (j : Nat) (a : α) (e : PyData), as[j]? = some a → ds[j]? = some e → RI a e) := fun Z H σ t mz al r iw ht Q q => by
  rw [lc_G]
  refine hi Z H σ al r _ fun J H1 e1 jd => ?_
  have al1 := al.same e1
  have r1 := r.same e1
  have i1 := iw.same e1
  refine lcg_jd jd (fun D i acc H' => Frm (Mw W) H1 H' ∧ Iw W (t + n * i) H' ∧ H' D = some (.lst acc) ∧ ∃ ds : List PyData, ds.length = i ∧ Dvs K (hid (Zl lv (addZ Z D) δ) H') acc ds ∧ ∀ (j : Nat) (a : α) (e : PyData), as[j]? = some a → ds[j]? = some e → RI a e)
    (fun D hD => ⟨Frm.of (same_new hD), (i1.same (same_new hD)).mono (by omega), upd_same, [], rfl, .nil, fun j a e _ h => by simp at h⟩)
    (fun D i acc H' _ _ p => by
      unfold Stb
      rw [if_pos rfl]
      exact fun b o hb z => p.1.keep b o hb (by
        cases m : Mw W b with
        | false => rfl
        | true => rw [mz_o mz.m b m] at z; cases z)) (fun D i x d acc H2 H' hD hd p e2 hx => ?_) (fun D acc H' hD p => ?_)
  · obtain ⟨p1, p2, p3, ds, hl, p4, p5⟩ := p
    rw [List.getElem?_map] at hd
    obtain ⟨a, ha, rfl⟩ := Option.map_eq_some_iff.mp hd
    have hil : i < as.length := (List.getElem?_eq_some_iff.mp ha).1
    obtain ⟨δ', ho, htg, hte⟩ := hs a (List.mem_of_getElem? ha)
    have hZ : ∀ b, addZ Z D b = true → Z b = true ∨ H1 b = none := fun b hb => (addZ_t hb).imp id fun w => by rw [w]; exact hD
    have al2 : Al (addZ Z D) H2 := fun b hb => by
      rcases addZ_t hb with w | w
      · exact p1.alz al1 b w
      · rw [w, p3]; intro z; cases z
    have mz' : Hd W (addZ Z D) := mz.sub fun a h => by unfold addZ; rw [h]; rfl
    have nMD : Mw W D = false := by
      cases m : Mw W D with
      | false => rfl
      | true => exact absurd hD (al1 D (mz.m D m))
    have kp : ∀ b o, H1 b = some o → Z b = false → H2 b = some o := fun b o hb z => p1.keep b o hb (by
      cases m : Mw W b with
      | false => rfl
      | true => rw [mz.m b m] at z; cases z)
    have ra : Rel K (addZ Z D) H2 σ δ := r1.hide kp hZ al1
    have r2 : Rel K (addZ Z D) H' (L2.wipe σ vs) δ := (ra.same e2).wipe hu
    have hx2 : Dv K (hid (Zl lv (addZ Z D) δ) H') x (dat a) := hx (Zl lv (addZ Z D) δ) (zl_add hZ) (ra.all al2 lv)
    refine htg (addZ Z D) H' (L2.wipe σ vs) x (al2.same e2) r2 hx2 _ fun σ2 r3 w3 => ⟨w3.trans wipe_wipe, ?_⟩
    unfold tYes
    dsimp only
    rw [if_pos rfl]
    have hle : n * (i + 1) ≤ n * as.length := Nat.mul_le_mul_left _ hil
    rw [Nat.mul_add] at hle
    refine hte (addZ Z D) H' σ2 (t + n * i) mz' (al2.same e2) r3 (p2.same e2) (by omega) _ fun v d H4 f4 i4 rd hv => ?_
    have hD4 := f4.keep D _ (e2 _ _ p3) nMD
    refine ⟨acc, hD4, ?_, acc ++ [v], ?_, ?_, upd_same, ds ++ [d], by rw [List.length_append, hl]; rfl, ?_, ?_⟩
    · have big : 100000 ≤ sizeLine := by decide
      rw [p4.len, hl]
      omega
    · refine ⟨fun b o hb m => ?_, fun b hb => ?_⟩
      · rw [upd_ne (ne_of_none hb hD)]
        exact f4.keep b o (e2 _ _ (p1.keep b o hb m)) m
      · by_cases z : b = D
        · rw [z, upd_same]; intro w; cases w
        · rw [upd_ne z]
          exact f4.al b ((Frm.of (M := Mw W) e2).al b (p1.al b hb))
    · have i5 : Iw W (t + n * (i + 1)) H4 := i4.mono (by rw [Nat.mul_add]; omega)
      cases W with
      | none => trivial
      | some pc =>
        obtain ⟨pp, cc⟩ := pc
        have hpD : D ≠ pp := (mw_f nMD).1
        refine ⟨PenOk.mut i5.1 hpD fun w => ?_, tabs_kept i5.2 hD4 (mw_f nMD).2 (fun q z => by unfold LamX.CodeO at z; cases z) fun b u hb n => by rw [upd_ne n]; exact hb⟩
        obtain ⟨xs, hc⟩ := PenOk.cells (show PenOk H1 pp cc.1 t from i1.1)
        rw [← w, hD] at hc
        cases hc
    · have hz : Zl lv (addZ Z D) δ' = Zl lv (addZ Z D) δ := by unfold Zl Zo; rw [ho]
      rw [hz] at hv
      have mv : ∀ {H5 : Hp}, Same (hid (Zl lv (addZ Z D) δ) H5) (hid (Zl lv (addZ Z D) δ) (upd H5 D (.lst (acc ++ [v])))) := fun {H5} => hid_sub fun b o hb z => by
        refine ⟨?_, z⟩
        rw [upd_ne]
        · exact hb
        · intro w
          have := zl_out z
          rw [w] at this
          unfold addZ at this
          rw [decide_eq_true rfl, Bool.or_true] at this
          cases this
      have k4 : Same (hid (Zl lv (addZ Z D) δ) H2) (hid (Zl lv (addZ Z D) δ) H4) := (same_hid e2).trans (f4.hid (mz_o mz'.m))
      exact ((p4.same k4).same mv).app (.cons (hv.same mv) .nil)
    · intro j b e hb he
      rcases Nat.lt_or_ge j ds.length with h | h
      · rw [List.getElem?_append_left h] at he
        exact p5 j b e hb he
      · rw [List.getElem?_append_right h] at he
        have hj : j = ds.length := by
          have := (List.getElem?_eq_some_iff.mp he).1
          simp at this
          omega
        subst hj
        rw [Nat.sub_self] at he
        cases he
        rw [hl, ha] at hb
        cases hb
        exact rd
  · obtain ⟨p1, p2, p3, ds, hl, p4, p5⟩ := p
    rw [List.length_map] at p2 hl
    have hz : Same (hid (Zl lv (addZ Z D) δ) H') (hid (Zl lv Z δ) H') := zl_back
    have alD : Zl lv Z δ D = false := ((r1.all al1 lv)).off hD
    exact q _ (.list ds) H' ((Frm.of e1).trans p1) p2 ⟨ds, rfl, hl, p5⟩ (.lst (hid_in p3 alD) (p4.same hz))
end
end Fd

/-! statements, as data -/
namespace Fd
open PySem PySem.Spec PyProof.Rows L2 Fp
inductive Out where
  | nx (δ : List SV)
  | rt (d : PyData)
  | bk (δ : List SV)
  | ct (δ : List SV)
  | ro (p : Addr) (x : OV)
/-- what may have changed behind a statement that found δ -/
def Mo (W : Wd) (δ : List SV) : Zs := fun a => Mw W a || decide (a ∈ own δ)
theorem mo_f {W : Wd} {δ : List SV} {a : Addr} : Mo W δ a = false ↔ Mw W a = false ∧ a ∉ own δ := by
  unfold Mo
  rw [Bool.or_eq_false_iff, decide_eq_false_iff_not]
structure Aft (W : Wd) (δ δ' : List SV) (H H' : Hp) : Prop where
  frm : Frm (Mo W δ) H H'
  new : ∀ p ∈ own δ', p ∈ own δ ∨ H p = none
theorem Aft.of {W : Wd} {δ δ' : List SV} {H H' : Hp} (e : Frm (Mw W) H H') (s : ∀ p ∈ own δ', p ∈ own δ ∨ H p = none) : Aft W δ δ' H H' := ⟨⟨fun b o h m => e.keep b o h (mo_f.mp m).1, e.al⟩, s⟩
theorem Frm.mw {W : Wd} {δ : List SV} {H H' : Hp} (e : Frm (Mw W) H H') : Frm (Mo W δ) H H' := ⟨fun b o h m => e.keep b o h (mo_f.mp m).1, e.al⟩
theorem frm_next {W : Wd} {δ δ1 : List SV} {H H1 H2 : Hp} (a : Aft W δ δ1 H H1) (b : Frm (Mo W δ1) H1 H2) : Frm (Mo W δ) H H2 := ⟨fun c o h m => by
  obtain ⟨m1, m2⟩ := mo_f.mp m
  refine b.keep c o (a.frm.keep c o h m) (mo_f.mpr ⟨m1, fun z => ?_⟩)
  rcases a.new c z with w | w
  · exact m2 w
  · exact absurd h (by rw [w]; intro q; cases q), fun c h => b.al c (a.frm.al c h)⟩
theorem Aft.trans {W : Wd} {δ δ1 δ2 : List SV} {H H1 H2 : Hp} (a : Aft W δ δ1 H H1) (b : Aft W δ1 δ2 H1 H2) : Aft W δ δ2 H H2 := ⟨frm_next a b.frm, fun p hp => by
  rcases b.new p hp with w | w
  · exact a.new p w
  · exact .inr (a.frm.none w)⟩
/-- it is handed back whole: nobody else knows it -/
structure OvNew (K : PySem.W.Frag) (Z : Zs) (δ : List SV) (H H' : Hp) (p : Addr) (x : OV) : Prop where
  ok : OvAt K (hid (fun a => Z a || decide (a ∈ x.adrs p)) H') H' p x
  new : ∀ a ∈ x.adrs p, a ∈ own δ ∨ H a = none
  nd : (x.adrs p).Nodup
  off : ∀ a ∈ x.adrs p, Z a = false
theorem OvNew.back {K : PySem.W.Frag} {Z : Zs} {W : Wd} {δ δ1 : List SV} {H H1 H2 : Hp} {p : Addr} {x : OV} (h : OvNew K Z δ1 H1 H2 p x) (f : Aft W δ δ1 H H1) : OvNew K Z δ H H2 p x := ⟨h.ok, fun a ha => by
  rcases h.new a ha with w | w
  · exact f.new a w
  · exact .inr (f.frm.none w), h.nd, h.off⟩
/-- the pen, or nothing; the state of a def that runs -/
def Sw (K : PySem.W.Frag) (W : Wd) (δ : List SV) (t : Nat) (ts : TS) (R : Out → Nat → Prop) : Prop := ∀ (Z : Zs) (H : Hp) (σ : L2.St) (D : Ends), Hd W Z → Al Z H → Rel K Z H σ δ → Iw W t H →
  (∀ δ' t' σ' H', R (.nx δ') t' → Aft W δ δ' H H' → Rel K Z H' σ' δ' → Iw W t' H' → D.nx σ' H') →
  (∀ d t' v H', R (.rt d) t' → Frm (Mo W δ) H H' → Iw W t' H' → Dv K (hid Z H') v d → D.rt v H') →
  (∀ δ' t' σ' H', R (.bk δ') t' → Aft W δ δ' H H' → Rel K Z H' σ' δ' → Iw W t' H' → D.bk σ' H') →
  (∀ δ' t' σ' H', R (.ct δ') t' → Aft W δ δ' H H' → Rel K Z H' σ' δ' → Iw W t' H' → D.ct σ' H') →
  (∀ p x t' H', R (.ro p x) t' → Frm (Mo W δ) H H' → Iw W t' H' → OvNew K Z δ H H' p x → D.rt (.ref p) H') → ts D σ H
section
variable {K : PySem.W.Frag} {lv : Bool} {W : Wd} {δ δ1 δ2 : List SV} {t : Nat} {a b u : TS} {R S : Out → Nat → Prop} {te ta : TE} {tr : TA} {tt : TT} {d x y : PyData} {ds es : List PyData} {i j l n m : Nat} {P : PyData → Prop} {g : TG} {c : Bool}
theorem Aft.refl {H : Hp} : Aft W δ δ H H := ⟨Frm.refl, fun p h => .inl h⟩
theorem Sw.imp (h : Sw K W δ t a R) (e : ∀ o t', R o t' → S o t') : Sw K W δ t a S := fun Z H σ D mz al r iw h1 h2 h3 h4 h5 =>
  h Z H σ D mz al r iw (fun δ' t' σ' H' q => h1 δ' t' σ' H' (e _ _ q)) (fun d t' v H' q => h2 d t' v H' (e _ _ q)) (fun δ' t' σ' H' q => h3 δ' t' σ' H' (e _ _ q)) (fun δ' t' σ' H' q => h4 δ' t' σ' H' (e _ _ q)) (fun p x t' H' q => h5 p x t' H' (e _ _ q))
/-- behind reading only -/
theorem Sw.go {Z : Zs} {H H1 : Hp} {σ : L2.St} {D : Ends} (h : Sw K W δ t a R) (mz : Hd W Z) (al : Al Z H) (r : Rel K Z H σ δ) {s : Nat} (iw : Iw W t H1) (f : Frm (Mw W) H H1)
    (h1 : ∀ δ' t' σ' H', R (.nx δ') t' → Aft W δ δ' H H' → Rel K Z H' σ' δ' → Iw W t' H' → D.nx σ' H') (h2 : ∀ d t' v H', R (.rt d) t' → Frm (Mo W δ) H H' → Iw W t' H' → Dv K (hid Z H') v d → D.rt v H')
    (h3 : ∀ δ' t' σ' H', R (.bk δ') t' → Aft W δ δ' H H' → Rel K Z H' σ' δ' → Iw W t' H' → D.bk σ' H') (h4 : ∀ δ' t' σ' H', R (.ct δ') t' → Aft W δ δ' H H' → Rel K Z H' σ' δ' → Iw W t' H' → D.ct σ' H')
    (h5 : ∀ p x t' H', R (.ro p x) t' → Frm (Mo W δ) H H' → Iw W t' H' → OvNew K Z δ H H' p x → D.rt (.ref p) H') : a D σ H1 := by
  have a0 : Aft W δ δ H H1 := Aft.of f fun p h => .inl h
  exact h Z H1 σ D mz (f.alz al) (r.frm f mz.m) iw (fun δ' t' σ' H' q f2 => h1 δ' t' σ' H' q (a0.trans f2)) (fun d t' v H' q f2 => h2 d t' v H' q (frm_next a0 f2)) (fun δ' t' σ' H' q f2 => h3 δ' t' σ' H' q (a0.trans f2)) (fun δ' t' σ' H' q f2 => h4 δ' t' σ' H' q (a0.trans f2)) (fun p x t' H' q f2 i2 n2 => h5 p x t' H' q (frm_next a0 f2) i2 (n2.back a0))
theorem sw_next (h : R (.nx δ) t) : Sw K W δ t tNext R := fun Z H σ D mz al r iw h1 h2 h3 h4 h5 => h1 δ t σ H h Aft.refl r iw
theorem sw_brk (h : R (.bk δ) t) : Sw K W δ t tBreak R := fun Z H σ D mz al r iw h1 h2 h3 h4 h5 => h3 δ t σ H h Aft.refl r iw
theorem sw_cont (h : R (.ct δ) t) : Sw K W δ t tCont R := fun Z H σ D mz al r iw h1 h2 h3 h4 h5 => h4 δ t σ H h Aft.refl r iw
/-- one behind the other -/
theorem sw_seq (h : Sw K W δ t a fun o t' => match o with
    | .nx δ' => Sw K W δ' t' b R
    | o => R o t') : Sw K W δ t (tSeq a b) R := fun Z H σ D mz al r iw h1 h2 h3 h4 h5 => by
  refine h Z H σ _ mz al r iw (fun δ' t' σ' H' q f r' i' => ?_) h2 h3 h4 h5
  exact q Z H' σ' D mz (f.frm.alz al) r' i' (fun δ2 t2 σ2 H2 q2 f2 => h1 δ2 t2 σ2 H2 q2 (f.trans f2)) (fun d t2 v H2 q2 f2 => h2 d t2 v H2 q2 (frm_next f f2)) (fun δ2 t2 σ2 H2 q2 f2 => h3 δ2 t2 σ2 H2 q2 (f.trans f2)) (fun δ2 t2 σ2 H2 q2 f2 => h4 δ2 t2 σ2 H2 q2 (f.trans f2)) (fun p x t2 H2 q2 f2 i2 n2 => h5 p x t2 H2 q2 (frm_next f f2) i2 (n2.back f))
theorem sw_if (h : EvB K δ tt c) (h1 : c = true → Sw K W δ t a R) (h2 : c = false → Sw K W δ t b R) : Sw K W δ t (tIfS tt a b) R := fun Z H σ D mz al r iw q1 q2 q3 q4 q5 => h Z H σ al r _ fun H1 e => by
  cases c with
  | true => exact (h1 rfl).go (s := 0) mz al r (iw.same e) (Frm.of e) q1 q2 q3 q4 q5
  | false => exact (h2 rfl).go (s := 0) mz al r (iw.same e) (Frm.of e) q1 q2 q3 q4 q5
theorem sw_ret (h : Ev K lv δ te d) (q : R (.rt d) t) : Sw K W δ t (tRet te) R := fun Z H σ D mz al r iw h1 h2 h3 h4 h5 => h Z H σ al r _ fun v H1 e hv => h2 d t v H1 q (Frm.of e) (iw.same e) (hv.same (hid_sub fun a o h z => ⟨h, zl_out z⟩))
theorem sw_retX (h : Ex K lv W δ te n P) (ht : t + n ≤ 1000000000) (q : ∀ d, P d → R (.rt d) (t + n)) : Sw K W δ t (tRet te) R := fun Z H σ D mz al r iw h1 h2 h3 h4 h5 => h Z H σ t mz al r iw ht _ fun v d H1 f i1 p hv => h2 d (t + n) v H1 (q d p) f.mw i1 (hv.same (hid_sub fun a o h z => ⟨h, zl_out z⟩))
theorem own_put {s : SV} (hs : s.adr = []) : ∀ p ∈ own (δ.set i s), p ∈ own δ := fun p hp => (own_sub hs δ i).subset hp
theorem sw_asgX (h : Ex K lv W δ te n P) (ht : t + n ≤ 1000000000) (q : ∀ d, P d → R (.nx (δ.set i (sl lv d))) (t + n)) : Sw K W δ t (tAsg te (gName i)) R := fun Z H σ D mz al r iw h1 h2 h3 h4 h5 =>
  h Z H σ t mz al r iw ht _ fun v d H1 f i1 p hv => h1 _ (t + n) _ H1 (q d p) (Aft.of f fun p hp => .inl (own_put sl_adr p hp)) ((r.frm f mz.m).putL hv) i1
theorem sw_asg (h : Ev K lv δ te d) (q : R (.nx (δ.set i (sl lv d))) t) : Sw K W δ t (tAsg te (gName i)) R := fun Z H σ D mz al r iw h1 h2 h3 h4 h5 =>
  h Z H σ al r _ fun v H1 e hv => h1 _ t _ H1 q (Aft.of (Frm.of e) fun p hp => .inl (own_put sl_adr p hp)) ((r.same e).putL hv) (iw.same e)
/-- any target -/
theorem sw_asgT {vs : List Nat} (h : Ev K lv δ te d) (hg : Tg K lv δ vs g d δ1) (ho : ∀ p ∈ own δ1, p ∈ own δ) (q : R (.nx δ1) t) : Sw K W δ t (tAsg te g) R := fun Z H σ D mz al r iw h1 h2 h3 h4 h5 =>
  h Z H σ al r _ fun v H1 e hv => hg Z H1 σ v (al.same e) (r.same e) hv _ fun σ1 r1 _ => h1 _ t _ H1 q (Aft.of (Frm.of e) fun p hp => .inl (ho p hp)) r1 (iw.same e)
theorem sw_asgTX {vs : List Nat} (h : Ex K lv W δ te n P) (ht : t + n ≤ 1000000000) (q : ∀ d, P d → ∃ δ1, Tg K lv δ vs g d δ1 ∧ (∀ p ∈ own δ1, p ∈ own δ) ∧ R (.nx δ1) (t + n)) : Sw K W δ t (tAsg te g) R := fun Z H σ D mz al r iw h1 h2 h3 h4 h5 =>
  h Z H σ t mz al r iw ht _ fun v d H1 f i1 p hv => by
    obtain ⟨δ1, hg, ho, hq⟩ := q d p
    exact hg Z H1 σ v (f.alz al) (r.frm f mz.m) hv _ fun σ1 r1 _ => h1 _ (t + n) _ H1 hq (Aft.of f fun p hp => .inl (ho p hp)) r1 i1
theorem sw_par {R2 : List PyData → Prop} (h : ExA K lv W δ tr n R2) (ht : t + n ≤ 1000000000) (q : ∀ ds, R2 ds → ∃ x y, ds = [x, y] ∧ R (.nx ((δ.set i (sl lv x)).set j (sl lv y))) (t + n)) : Sw K W δ t (tPar i j tr) R := fun Z H σ D mz al r iw h1 h2 h3 h4 h5 =>
  h Z H σ t mz al r iw ht _ fun vs ds H1 f i1 p hv => by
    obtain ⟨x, y, rfl, hq⟩ := q ds p
    cases hv with
    | cons a b =>
      cases b with
      | cons b c =>
        cases c
        refine ⟨_, _, rfl, h1 _ (t + n) _ H1 hq (Aft.of f fun p hp => .inl (own_put sl_adr p (own_put sl_adr p hp))) ?_ i1⟩
        exact ((r.frm f mz.m).putL a).putL (b.same (zl_sub (own_sub sl_adr δ i)))
theorem sw_par3 {R2 : List PyData → Prop} (h : ExA K lv W δ tr n R2) (ht : t + n ≤ 1000000000) (q : ∀ ds, R2 ds → ∃ x y z, ds = [x, y, z] ∧ R (.nx (((δ.set i (sl lv x)).set j (sl lv y)).set l (sl lv z))) (t + n)) : Sw K W δ t (tPar3 i j l tr) R := fun Z H σ D mz al r iw h1 h2 h3 h4 h5 =>
  h Z H σ t mz al r iw ht _ fun vs ds H1 f i1 p hv => by
    obtain ⟨x, y, z, rfl, hq⟩ := q ds p
    cases hv with
    | cons a b =>
      cases b with
      | cons b c =>
        cases c with
        | cons c e =>
          cases e
          refine ⟨_, _, _, rfl, h1 _ (t + n) _ H1 hq (Aft.of f fun p hp => .inl (own_put sl_adr p (own_put sl_adr p (own_put sl_adr p hp)))) ?_ i1⟩
          have s1 := zl_sub (lv := lv) (Z := Z) (H := H1) (own_sub (s := sl lv x) sl_adr δ i)
          exact (((r.frm f mz.m).putL a).putL (b.same s1)).putL ((c.same s1).same (zl_sub (own_sub sl_adr _ j)))
end
/-! ### things of its own -/
theorem own_set {s : SV} : ∀ (δ : List SV) (i : Nat) (a : Addr), a ∈ own (δ.set i s) → a ∈ s.adr ∨ a ∈ own δ
  | [], i, a, h => .inr h
  | x :: r, 0, a, h => by
    have h : a ∈ List.flatMap SV.adr (s :: r) := h
    rw [List.flatMap_cons] at h
    rcases List.mem_append.mp h with h | h
    · exact .inl h
    · exact .inr (by show a ∈ List.flatMap SV.adr (x :: r); rw [List.flatMap_cons]; exact List.mem_append_right _ h)
  | x :: r, i + 1, a, h => by
    have h : a ∈ List.flatMap SV.adr (x :: r.set i s) := h
    rw [List.flatMap_cons] at h
    rcases List.mem_append.mp h with h | h
    · exact .inr (by show a ∈ List.flatMap SV.adr (x :: r); rw [List.flatMap_cons]; exact List.mem_append_left _ h)
    · rcases own_set r i a h with w | w
      · exact .inl w
      · exact .inr (by show a ∈ List.flatMap SV.adr (x :: r); rw [List.flatMap_cons]; exact List.mem_append_right _ w)
theorem own_nd {s : SV} (hs : s.adr.Nodup) : ∀ (δ : List SV) (i : Nat), (own δ).Nodup → (∀ a ∈ s.adr, a ∉ own δ) → (own (δ.set i s)).Nodup
  | [], i, h, _ => h
  | x :: r, 0, h, hd => by
    have h : (List.flatMap SV.adr (x :: r)).Nodup := h
    rw [List.flatMap_cons] at h
    show (List.flatMap SV.adr (s :: r)).Nodup
    rw [List.flatMap_cons]
    refine List.nodup_append.mpr ⟨hs, (List.nodup_append.mp h).2.1, fun a ha b hb e => ?_⟩
    subst e
    exact hd a ha (by show a ∈ List.flatMap SV.adr (x :: r); rw [List.flatMap_cons]; exact List.mem_append_right _ hb)
  | x :: r, i + 1, h, hd => by
    have h : (List.flatMap SV.adr (x :: r)).Nodup := h
    rw [List.flatMap_cons] at h
    show (List.flatMap SV.adr (x :: r.set i s)).Nodup
    rw [List.flatMap_cons]
    obtain ⟨h1, h2, h3⟩ := List.nodup_append.mp h
    refine List.nodup_append.mpr ⟨h1, own_nd hs r i h2 fun a ha m => hd a ha (by show a ∈ List.flatMap SV.adr (x :: r); rw [List.flatMap_cons]; exact List.mem_append_right _ m), fun a ha b hb e => ?_⟩
    subst e
    rcases own_set r i a hb with w | w
    · exact hd a w (by show a ∈ List.flatMap SV.adr (x :: r); rw [List.flatMap_cons]; exact List.mem_append_left _ ha)
    · exact h3 a ha a w rfl
theorem own_eq {s t : SV} (e : s.adr = t.adr) : ∀ (δ : List SV) (i : Nat), δ[i]? = some t → own (δ.set i s) = own δ
  | x :: r, 0, h => by
    cases h
    show List.flatMap SV.adr (s :: r) = List.flatMap SV.adr (t :: r)
    rw [List.flatMap_cons, List.flatMap_cons, e]
  | x :: r, i + 1, h => by
    show List.flatMap SV.adr (x :: r.set i s) = List.flatMap SV.adr (x :: r)
    rw [List.flatMap_cons, List.flatMap_cons]
    have := own_eq e r i h
    unfold own at this
    rw [this]
theorem own_apart : ∀ {δ : List SV} {i k : Nat} {s t : SV} {a : Addr}, (own δ).Nodup → δ[i]? = some s → δ[k]? = some t → a ∈ s.adr → a ∈ t.adr → i = k
  | x :: r, i, k, s, t, a, nd, h1, h2, m1, m2 => by
    have nd : (List.flatMap SV.adr (x :: r)).Nodup := nd
    rw [List.flatMap_cons] at nd
    obtain ⟨n1, n2, n3⟩ := List.nodup_append.mp nd
    cases i with
    | zero =>
      cases k with
      | zero => rfl
      | succ k =>
        cases h1
        exact absurd rfl (n3 a m1 a (own_in (δ := r) h2 m2))
    | succ i =>
      cases k with
      | zero =>
        cases h2
        exact absurd rfl (n3 a m2 a (own_in (δ := r) h1 m1))
      | succ k => exact congrArg Nat.succ (own_apart n2 h1 h2 m1 m2)
section
variable {K : PySem.W.Frag} {lv : Bool} {W : Wd} {δ δ1 δ2 : List SV} {t : Nat} {i : Nat}
/-- a new thing of its own -/
theorem Rel.mine {Z : Zs} {H H1 : Hp} {σ : L2.St} {p : Addr} {x : OV} (r : Rel K Z H σ δ) (al : Al Z H) (e : Same H H1) (hp : ∀ a ∈ x.adrs p, H a = none) (nd : (x.adrs p).Nodup)
    (hx : ∀ Hh, Same (hid (Zo Z δ) (fun a => if a ∈ x.adrs p then none else H1 a)) Hh → OvAt K Hh H1 p x) (hi : i < δ.length) : Rel K Z H1 (σ.set i (some (.ref p))) (δ.set i (.o p x)) := by
  have alo := r.alo al
  have np : ∀ a ∈ x.adrs p, a ∉ own δ := fun a ha h => absurd (hp a ha) (alo a (by unfold Zo; rw [decide_eq_true h, Bool.or_true]))
  have zs : Same (hid (Zo Z δ) H) (hid (Zo Z (δ.set i (.o p x))) H1) := hid_sub fun a o ha z => by
    obtain ⟨z1, z2⟩ := zo_f.mp z
    refine ⟨e a o ha, zo_f.mpr ⟨z1, fun m => ?_⟩⟩
    rcases own_set δ i a m with w | w
    · have w : a ∈ x.adrs p := w
      rw [hp a w] at ha; cases ha
    · exact z2 w
  have zb : Same (hid Z H) (hid Z H1) := same_hid e
  refine ⟨by rw [List.length_set, List.length_set]; exact r.len, fun j s hj => ?_, own_nd (s := .o p x) nd δ i r.nd np, fun q hq => ?_⟩
  · by_cases ij : i = j
    · subst ij
      rw [List.getElem?_set_self hi] at hj
      cases hj
      rw [List.getElem?_set_self (by rw [r.len]; exact hi)]
      refine ⟨rfl, hx _ (hid_sub fun a o ha z => ?_)⟩
      by_cases ma : a ∈ x.adrs p
      · simp [ma] at ha
      · simp only [ma, if_false] at ha
        obtain ⟨z1, z2⟩ := zo_f.mp z
        refine ⟨ha, zo_f.mpr ⟨z1, fun m => ?_⟩⟩
        rcases own_set δ i a m with w | w
        · exact ma w
        · exact z2 w
    · rw [List.getElem?_set_ne ij] at hj
      rw [List.getElem?_set_ne ij]
      have h := r.ok j s hj
      cases s with
      | u => trivial
      | d d =>
        obtain ⟨v, g1, g2⟩ := h
        exact ⟨v, g1, g2.same zs⟩
      | b d =>
        obtain ⟨v, g1, g2⟩ := h
        exact ⟨v, g1, g2.same zb⟩
      | v v => exact h
      | o q ov => exact ⟨h.1, h.2.mono zs fun a o _ h => e a o h⟩
  · rcases own_set δ i q hq with w | w
    · exact al.off (hp q w)
    · exact r.off q w
/-- what leans on things of its own is forgotten -/
def fgt (δ : List SV) : List SV := δ.map SV.fgt
theorem fgt_own (δ : List SV) : own (fgt δ) = own δ := by
  induction δ with
  | nil => rfl
  | cons x r ih =>
    show List.flatMap SV.adr (x.fgt :: fgt r) = List.flatMap SV.adr (x :: r)
    rw [List.flatMap_cons, List.flatMap_cons]
    have : List.flatMap SV.adr (fgt r) = List.flatMap SV.adr r := ih
    rw [this]
    cases x <;> rfl
theorem fgt_at {δ : List SV} {k : Nat} {s : SV} (h : (fgt δ)[k]? = some s) : ∃ s0, δ[k]? = some s0 ∧ s = s0.fgt := by
  unfold fgt at h
  rw [List.getElem?_map] at h
  obtain ⟨s0, h1, rfl⟩ := Option.map_eq_some_iff.mp h
  exact ⟨s0, h1, rfl⟩
/-- a thing of its own is changed at its own places -/
theorem Rel.chg {Z : Zs} {H H1 : Hp} {σ : L2.St} {p : Addr} {x y : OV} (r : Rel K Z H σ δ) (h : δ[i]? = some (.o p x)) (ea : y.adrs p = x.adrs p) (e : ∀ a o, H a = some o → a ∉ x.adrs p → H1 a = some o) (hy : OvAt K (hid (Zo Z δ) H1) H1 p y) :
    Rel K Z H1 σ ((fgt δ).set i (.o p y)) := by
  have hi : i < δ.length := (List.getElem?_eq_some_iff.mp h).1
  have hown : own ((fgt δ).set i (.o p y)) = own δ := by
    have h2 : (fgt δ)[i]? = some (.o p x) := by unfold fgt; rw [List.getElem?_map, h]; rfl
    rw [own_eq (s := .o p y) (t := .o p x) ea _ _ h2, fgt_own]
  have hz : Zo Z ((fgt δ).set i (.o p y)) = Zo Z δ := by unfold Zo; rw [hown]
  have hs : Same (hid (Zo Z δ) H) (hid (Zo Z δ) H1) := hid_sub fun b o hb z => ⟨e b o hb fun m => (zo_f.mp z).2 (own_in h m), z⟩
  refine ⟨by rw [List.length_set]; unfold fgt; rw [List.length_map]; exact r.len, fun k s hk => ?_, by rw [hown]; exact r.nd, fun q hq => r.off q (hown ▸ hq)⟩
  by_cases ik : i = k
  · subst ik
    rw [List.getElem?_set_self (by unfold fgt; rw [List.length_map]; exact hi)] at hk
    cases hk
    exact ⟨(r.ok i _ h).1, by rw [hz]; exact hy⟩
  · rw [List.getElem?_set_ne ik] at hk
    obtain ⟨s0, h0, rfl⟩ := fgt_at hk
    have g := r.ok k s0 h0
    cases s0 with
    | u => trivial
    | d d =>
      obtain ⟨v, g1, g2⟩ := g
      exact ⟨v, g1, by rw [hz]; exact g2.same hs⟩
    | b d => trivial
    | v v => exact g
    | o q ov =>
      refine ⟨g.1, ?_⟩
      rw [hz]
      exact g.2.mono hs fun a o ha hb => e a o hb fun m => ik (own_apart r.nd h h0 m ha)
theorem Aft.chg {H H1 H2 : Hp} {p : Addr} {x y : OV} (f : Frm (Mw W) H H1) (h : δ[i]? = some (.o p x)) (ea : y.adrs p = x.adrs p) (e : ∀ a o, H1 a = some o → a ∉ x.adrs p → H2 a = some o) (el : ∀ a, H1 a ≠ none → H2 a ≠ none) : Aft W δ ((fgt δ).set i (.o p y)) H H2 := ⟨⟨fun b u hb m => by
  obtain ⟨m1, m2⟩ := mo_f.mp m
  exact e b u (f.keep b u hb m1) fun w => m2 (own_in h w), fun b hb => el b (f.al b hb)⟩, fun q hq => by
  rcases own_set _ i q hq with w | w
  · exact .inl (own_in h (by have w : q ∈ y.adrs p := w; rw [ea] at w; exact w))
  · rw [fgt_own] at w; exact .inl w⟩
end
end Fd

/-! lists of its own, made and changed, as data -/
namespace Fd
open PySem PySem.Spec PyProof.Rows L2 Fp
/-- a new list comes -/
def EvO (K : PySem.W.Frag) (δ : List SV) (te : TE) (ds : List PyData) : Prop := ∀ (Z : Zs) (H : Hp) (σ : L2.St), Al Z H → Rel K Z H σ δ → ∀ Q : VK, (∀ p xs H', Same H H' → H p = none → H' p = some (.lst xs) → Dvs K (hid (Zo Z δ) (del H' p)) xs ds → Q (.ref p) H') → te σ H Q
section
variable {K : PySem.W.Frag} {lv : Bool} {W : Wd} {δ δ1 δ2 : List SV} {t : Nat} {a b u : TS} {R S : Out → Nat → Prop} {te ta ti : TE} {tr : TA} {tt : TT} {d x y : PyData} {ds es xs : List PyData} {i j l n m : Nat} {P : PyData → Prop} {g : TG} {c : Bool} {p : Addr}
theorem del_new {Z : Zs} {H : Hp} {q : Addr} {o : HO} (hq : H q = none) : Same (hid Z H) (hid Z (del (upd H q o) q)) := hid_sub fun b u h z => ⟨by
  have n : b ≠ q := ne_of_none h hq
  rw [del_ne n, upd_ne n]
  exact h, z⟩
theorem evo_lst (h : EvA K true δ tr ds) (hl : ds.length ≤ 1000) : EvO K δ (tLst tr) ds := fun Z H σ al r Q q => h Z H σ al r _ fun vs H1 e1 hv =>
  ⟨Nat.le_of_lt (small1000 (by rw [hv.len]; exact hl)), fun p hp => q p vs _ (Same.new e1 hp) ((Frm.of (M := fun _ => false) e1).none hp) upd_same (hv.same (del_new hp))⟩
theorem evo_list (h : Ev K true δ te (.list ds)) : EvO K δ (tCB (rListL K) (tCons te tNil)) ds := fun Z H σ al r Q q => h Z H σ al r _ fun v H1 e1 hv => by
  obtain ⟨a, vs, rfl, ha, hv⟩ := hv.list
  exact ⟨a, vs, rfl, .inl (.inl (of_hid ha).1), fun p hp => q p vs _ (Same.new e1 hp) ((Frm.of (M := fun _ => false) e1).none hp) upd_same (hv.same (del_new hp))⟩
theorem evo_cat (h : Ev K true δ ta (.list ds)) (h2 : Ev K true δ te (.list es)) (hl : ds.length + es.length ≤ 100000) : EvO K δ (tOp rCat ta te) (ds ++ es) := fun Z H σ al r Q q => h Z H σ al r _ fun v H1 e1 hv => h2 Z H1 σ (al.same e1) (r.same e1) _ fun w H2 e2 hw => by
  obtain ⟨a, vs, rfl, ha, hv⟩ := (hv.same (same_hid e2)).list
  obtain ⟨b, ws, rfl, hb, hw⟩ := hw.list
  exact ⟨_, _, _, _, rfl, rfl, (of_hid ha).1, (of_hid hb).1, Nat.le_trans (by rw [hv.len, hw.len]; exact hl) (by decide), fun p hp => q p _ _ (Same.new (e1.trans e2) hp) ((Frm.of (M := fun _ => false) (e1.trans e2)).none hp) upd_same ((hv.app hw).same (del_new hp))⟩
theorem evo_rep {k : Int} (h : Ev K true δ ta (.list ds)) (h2 : Ev K true δ te (.int k)) (hl : ds.length * k.toNat ≤ 100000) (h3 : -(2 ^ 63) ≤ k) (h4 : k < 2 ^ 63) : EvO K δ (tOp rRep ta te) (List.replicate k.toNat ds).flatten := fun Z H σ al r Q q => h Z H σ al r _ fun v H1 e1 hv => h2 Z H1 σ (al.same e1) (r.same e1) _ fun w H2 e2 hw => by
  cases hw
  obtain ⟨a, vs, rfl, ha, hv⟩ := (hv.same (same_hid e2)).list
  exact ⟨_, _, _, rfl, rfl, (of_hid ha).1, h3, h4, Nat.le_trans (by rw [hv.len]; exact hl) (by decide), fun p hp => q p _ _ (Same.new (e1.trans e2) hp) ((Frm.of (M := fun _ => false) (e1.trans e2)).none hp) upd_same ((hv.rep _).same (del_new hp))⟩
theorem EvO.cast (h : EvO K δ te xs) (e : xs = ds) : EvO K δ te ds := e ▸ h
/-- x = .. a list of its own -/
theorem sw_new (h : EvO K δ te ds) (hi : i < δ.length) (q : ∀ p, R (.nx (δ.set i (.o p (.lst ds)))) t) : Sw K W δ t (tAsg te (gName i)) R := fun Z H σ D mz al r iw h1 h2 h3 h4 h5 =>
  h Z H σ al r _ fun p xs H1 e1 hp hl hx => h1 _ t _ H1 (q p) (Aft.of (Frm.of e1) fun b hb => by
    rcases own_set δ i b hb with w | w
    · have w : b ∈ [p] := w
      rw [List.mem_singleton.mp w]
      exact .inr hp
    · exact .inl w) (r.mine (x := .lst ds) al e1 (fun a ha => by have ha : a ∈ [p] := ha; rw [List.mem_singleton.mp ha]; exact hp) (List.nodup_cons.mpr ⟨by simp, List.nodup_nil⟩) (fun Hh s => ⟨xs, hl, hx.same (Same.trans ?_ s)⟩) hi) (iw.same e1)
where finally
  all_goals
    refine hid_sub fun a o ha z => ⟨?_, z⟩
    have na : a ≠ p := fun w => by rw [w, del_same] at ha; cases ha
    rw [del_ne na] at ha
    have : a ∉ OV.adrs p (.lst ds) := fun m => na (List.mem_singleton.mp (show a ∈ [p] from m))
    simp only [this, if_false]
    exact ha
end
end Fd

/-! lists of its own changed, loops, whole defs, as data -/
namespace Fd
open PySem PySem.Spec PyProof.Rows L2 Fp
section
variable {K : PySem.W.Frag} {lv : Bool} {W : Wd} {δ δ1 δ2 : List SV} {t : Nat} {a b u tb : TS} {R S : Out → Nat → Prop} {te ta ti : TE} {wi : TI} {tr : TA} {tt : TT} {d x y : PyData} {ds es xs : List PyData} {i j l n m : Nat} {P : PyData → Prop} {g : TG} {c : Bool} {p : Addr}
theorem Iw.wr {H : Hp} {o o0 : HO} (h : Iw W t H) {Z : Zs} (mz : Hd W Z) (hz : Z p = false) (h0 : H p = some o0) (hn : ∀ q, o0 ≠ LamX.CodeO p q := by intro q z; unfold LamX.CodeO at z; cases z) : Iw W t (upd H p o) := by
  cases W with
  | none => trivial
  | some pc =>
    refine ⟨PenOk.mut h.1 (fun w => ?_) (fun w => ?_), tabs_kept h.2 h0 (fun w => ?_) hn fun b u hb n => by rw [upd_ne n]; exact hb⟩
    · have := mz.m p (by rw [w]; exact mw_p)
      rw [hz] at this
      cases this
    · have := mz.c pc rfl
      rw [← w, hz] at this
      cases this
    · have := mz.m p (mw_t w)
      rw [hz] at this
      cases this
theorem upd_keep {H : Hp} {o : HO} {l : List Addr} (hp : p ∈ l) : ∀ a u, H a = some u → a ∉ l → upd H p o a = some u := fun a u h m => by
  rw [upd_ne (fun w => m (by rw [w]; exact hp))]
  exact h
theorem upd_al {H : Hp} {o : HO} : ∀ a, H a ≠ none → upd H p o a ≠ none := fun a h => by
  by_cases z : a = p
  · rw [z, upd_same]; intro w; cases w
  · rw [upd_ne z]; exact h
/-- a list of its own gets other items -/
theorem lst_chg {Z : Zs} {H H1 : Hp} {σ : L2.St} {vs : List V} (r : Rel K Z H1 σ δ) (f : Frm (Mw W) H H1) (h : δ[i]? = some (.o p (.lst ds))) (hv : Dvs K (hid (Zo Z δ) H1) vs es) :
    Aft W δ ((fgt δ).set i (.o p (.lst es))) H (upd H1 p (.lst vs)) ∧ Rel K Z (upd H1 p (.lst vs)) σ ((fgt δ).set i (.o p (.lst es))) := by
  have pm : p ∈ OV.adrs p (.lst ds) := List.mem_singleton.mpr rfl
  refine ⟨Aft.chg f h rfl (upd_keep pm) upd_al, r.chg h rfl (upd_keep pm) ⟨vs, upd_same, hv.same ?_⟩⟩
  refine hid_sub fun a o ha z => ⟨?_, z⟩
  rw [upd_ne (fun w => (zo_f.mp z).2 (by rw [w]; exact own_mem h))]
  exact ha
theorem sw_append (h : δ[i]? = some (.o p (.lst ds))) (hx : Ex K true W δ te n P) (ht : t + n ≤ 1000000000) (hl : ds.length < 100000) (q : ∀ d, P d → R (.nx ((fgt δ).set i (.o p (.lst (ds ++ [d]))))) (t + n)) :
    Sw K W δ t (tDrop (tBM K "list" rAppend (tVar i) (tCons te tNil))) R := fun Z H σ D mz al r iw h1 h2 h3 h4 h5 => by
  obtain ⟨e, vs, g1, g2⟩ := r.ok i _ h
  have zp := r.off p (own_mem h)
  refine ⟨_, e, .inl ⟨rfl, vs, .inl (.inl g1)⟩, hx Z H σ t mz al r iw ht _ fun v d H1 f i1 pd hv => ?_⟩
  have r1 := r.frm f mz.m
  obtain ⟨_, vs', g3, g4⟩ := r1.ok i _ h
  obtain ⟨a1, a2⟩ := lst_chg r1 f h (g4.app (.cons hv .nil))
  refine ⟨p, vs', v, rfl, rfl, g3, ?_, h1 _ (t + n) _ _ (q d pd) a1 a2 (i1.wr mz zp g3)⟩
  have big : 100000 ≤ sizeLine := by decide
  rw [g4.len]
  omega
theorem sw_pop (h : δ[j]? = some (.o p (.lst (ds ++ [d])))) (q : R (.nx (((fgt δ).set j (.o p (.lst ds))).set i (.d d))) t) : Sw K W δ t (tAsg (tBM0 K "list" rPop (tVar j)) (gName i)) R := fun Z H σ D mz al r iw h1 h2 h3 h4 h5 => by
  obtain ⟨e, vs, g1, g2⟩ := r.ok j _ h
  have zp := r.off p (own_mem h)
  obtain ⟨v, hv1, hv2⟩ := g2.get (i := ds.length) (d := d) (by rw [List.getElem?_append_right (Nat.le_refl _), Nat.sub_self]; rfl)
  have hlen : vs.length = ds.length + 1 := by rw [g2.len, List.length_append]; rfl
  have hdl : Dvs K (hid (Zo Z δ) H) vs.dropLast ds := by
    have := g2.take ds.length
    rw [List.take_left'] at this
    · rw [List.dropLast_eq_take, hlen]
      exact this
    · rfl
  refine ⟨_, e, .inl ⟨rfl, vs, .inl (.inl g1)⟩, p, vs, v, rfl, rfl, g1, by rw [hlen]; exact hv1, ?_⟩
  obtain ⟨a1, a2⟩ := lst_chg (W := W) r Frm.refl h hdl
  refine h1 _ t _ _ q (a1.trans (Aft.of Frm.refl fun b hb => .inl (own_put rfl b hb))) (a2.putD (hv2.same ?_)) (iw.wr mz zp g1)
  have hz : own ((fgt δ).set j (.o p (.lst ds))) = own δ := by
    rw [own_eq (s := .o p (.lst ds)) (t := .o p (.lst (ds ++ [d]))) rfl _ _ (by unfold fgt; rw [List.getElem?_map, h]; rfl), fgt_own]
  refine hid_sub fun b o hb z => ⟨?_, by unfold Zo at z ⊢; rw [hz]; exact z⟩
  rw [upd_ne (fun w => (zo_f.mp z).2 (by rw [w]; exact own_mem h))]
  exact hb
/-- x[k] = e, x its own -/
theorem sw_setix {k : Nat} (h : δ[i]? = some (.o p (.lst ds))) (he : Ev K true δ te d) (hi : Ev K lv δ ti (.int (k : Int))) (hk : k < ds.length) (q : R (.nx ((fgt δ).set i (.o p (.lst (ds.set k d))))) t) :
    Sw K W δ t (tAsg te (gSub (tVar i) ti rSetL)) R := fun Z H σ D mz al r iw h1 h2 h3 h4 h5 => he Z H σ al r _ fun v H1 e1 hv => by
  have r1 := r.same e1
  obtain ⟨e, vs, g1, g2⟩ := r1.ok i _ h
  refine ⟨_, e, hi Z H1 σ (al.same e1) r1 _ fun w H2 e2 hw => ?_⟩
  cases hw
  have r2 := r1.same e2
  obtain ⟨e', vs', g3, g4⟩ := r2.ok i _ h
  obtain ⟨a1, a2⟩ := lst_chg (W := W) r2 (Frm.of (e1.trans e2)) h (g4.set (i := k) (hv.same (same_hid e2)))
  refine ⟨p, vs', _, k, rfl, rfl, g3, ?_, h1 _ t _ _ q a1 a2 ((iw.same (e1.trans e2)).wr mz (r.off p (own_mem h)) g3)⟩
  unfold ixN
  rw [if_pos (by omega), if_pos (by rw [g4.len]; omega)]
  simp
/-! ### loops -/
theorem forg_jd {J : It} {Z0 : Zs} {H : Hp} {σ : L2.St} {D : Ends} {st : Bool} (hJ : Jd K J ds st Z0 H) (Pv : Nat → L2.St → Hp → Prop) (h0 : Pv 0 σ H) (hP : ∀ i σ' H', i ≤ ds.length → Pv i σ' H' → Stb st Z0 H H')
    (hs : ∀ i x d σ' H1 H', ds[i]? = some d → Pv i σ' H1 → Same H1 H' → (∀ Z, (∀ a, Z a = true → Z0 a = true ∨ H a = none) → Al Z H1 → Dv K (hid Z H') x d) → g x σ' H' fun σ2 H2 => tb { D with nx := Pv (i + 1), ct := Pv (i + 1), bk := D.nx } σ2 H2)
    (hd : ∀ σ' H', Pv ds.length σ' H' → D.nx σ' H') : ForG J g tb D σ H := by
  refine ⟨fun i m σ' H' => m = ds.length - i ∧ i ≤ ds.length ∧ Pv i σ' H', ⟨ds.length, by simp, Nat.zero_le _, h0⟩, ?_⟩
  rintro i m σ' H' ⟨rfl, hi, p⟩
  have hS := hP i σ' H' hi p
  by_cases hlt : i < ds.length
  · refine .inr ⟨hJ.go i H' hS hlt, Pv (i + 1), fun σ'' H'' p' => ⟨ds.length - (i + 1), by omega, rfl, hlt, p'⟩, fun x H'' y => ?_⟩
    have e := List.getElem?_eq_getElem hlt
    obtain ⟨e1, e2⟩ := hJ.yld i H' x H'' _ hS e y
    exact hs i x _ σ' H' H'' e p e1 e2
  · have e : i = ds.length := by omega
    subst e
    exact .inl ⟨hJ.stop _ H' hS (Nat.le_refl _), hd σ' H' p⟩
theorem for_G (D : Ends) (σ : L2.St) (H : Hp) : tFor wi g tb D σ H = wi σ H fun J H1 => ForG J g tb D σ H1 := rfl
/-- V: the invariant, by the turn, the state, the draws -/
theorem sw_for {vs : List Nat} (hi : EvI K true true δ wi ds) (V : Nat → List SV → Nat → Prop) (h0 : V 0 δ t)
    (hs : ∀ i d δ' t', ds[i]? = some d → V i δ' t' → ∃ δ'', (∀ q ∈ own δ'', q ∈ own δ') ∧ Tg K true δ' vs g d δ'' ∧ Sw K W δ'' t' tb fun o t2 => match o with
      | .nx δ3 => V (i + 1) δ3 t2
      | .ct δ3 => V (i + 1) δ3 t2
      | .bk δ3 => R (.nx δ3) t2
      | .rt d => R (.rt d) t2
      | .ro p x => R (.ro p x) t2)
    (hd : ∀ δ' t', V ds.length δ' t' → R (.nx δ') t') : Sw K W δ t (tFor wi g tb) R := fun Z H σ D mz al r iw h1 h2 h3 h4 h5 => by
  rw [for_G]
  refine hi Z H σ al r _ fun J H1 e1 jd => ?_
  have al1 := al.same e1
  have r1 := r.same e1
  have a01 : Aft W δ δ H H1 := Aft.of (Frm.of e1) fun p h => .inl h
  have kp : ∀ {δ' : List SV} {H' : Hp}, Aft W δ δ' H1 H' → Kp (Zo Z δ) H1 H' := fun {δ' H'} f b o hb z => by
    obtain ⟨z1, z2⟩ := zo_f.mp z
    refine f.frm.keep b o hb (mo_f.mpr ⟨?_, z2⟩)
    cases m : Mw W b with
    | false => rfl
    | true => rw [mz.m b m] at z1; cases z1
  refine forg_jd jd (fun i σ' H' => ∃ δ' t', V i δ' t' ∧ Aft W δ δ' H1 H' ∧ Rel K Z H' σ' δ' ∧ Iw W t' H') ⟨δ, t, h0, Aft.refl, r1, iw.same e1⟩ (fun i σ' H' _ p => ?_) (fun i x d σ' H2 H' hd2 p e2 hx => ?_) (fun σ' H' p => ?_)
  · obtain ⟨δ', t', v, f, _, _⟩ := p
    unfold Stb
    rw [if_pos rfl]
    exact kp f
  · obtain ⟨δ', t', v, f, r', i'⟩ := p
    obtain ⟨δ'', ho, htg, hb⟩ := hs i d δ' t' hd2 v
    have al2 : Al Z H2 := f.frm.alz al1
    have f2 : Aft W δ δ' H1 H' := f.trans (Aft.of (Frm.of e2) fun p h => .inl h)
    have r2 := r'.same e2
    refine htg Z H' σ' x (al2.same e2) r2 (hx (Zo Z δ') (fun b hb => ?_) (r'.alo al2)) _ fun σ2 r3 _ => ?_
    · show Zo Z δ b = true ∨ _
      unfold Zo at hb ⊢
      rcases Bool.or_eq_true_iff.mp hb with w | w
      · exact .inl (by rw [w]; rfl)
      · rcases f.new b (of_decide_eq_true w) with w | w
        · exact .inl (by rw [decide_eq_true w, Bool.or_true])
        · exact .inr w
    have f3 : Aft W δ δ'' H1 H' := f2.trans (Aft.of Frm.refl fun p h => .inl (ho p h))
    refine hb Z H' σ2 _ mz (al2.same e2) r3 (i'.same e2) (fun δ3 t3 σ3 H3 q f4 r4 i4 => ?_) (fun d t3 v H3 q f4 i4 hv => ?_) (fun δ3 t3 σ3 H3 q f4 r4 i4 => ?_) (fun δ3 t3 σ3 H3 q f4 r4 i4 => ?_) (fun p x t3 H3 q f4 i4 n4 => h5 p x t3 H3 q (frm_next a01 (frm_next f3 f4)) i4 ((n4.back f3).back a01))
    · exact ⟨δ3, t3, q, f3.trans f4, r4, i4⟩
    · exact h2 d t3 v H3 q (frm_next a01 (frm_next f3 f4)) i4 hv
    · exact h1 δ3 t3 σ3 H3 q (a01.trans (f3.trans f4)) r4 i4
    · exact ⟨δ3, t3, q, f3.trans f4, r4, i4⟩
  · obtain ⟨δ', t', v, f, r', i'⟩ := p
    exact h1 δ' t' σ' H' (hd δ' t' v) (a01.trans f) r' i'
/-- V: the invariant, by the measure -/
theorem sw_while (V : Nat → List SV → Nat → Prop) (h0 : ∃ m, V m δ t)
    (hs : ∀ m δ' t', V m δ' t' → ∃ b, EvB K δ' tt b ∧ (b = true → Sw K W δ' t' tb fun o t2 => match o with
      | .nx δ3 => ∃ m', m' < m ∧ V m' δ3 t2
      | .ct δ3 => ∃ m', m' < m ∧ V m' δ3 t2
      | .bk δ3 => R (.nx δ3) t2
      | .rt d => R (.rt d) t2
      | .ro p x => R (.ro p x) t2) ∧ (b = false → R (.nx δ') t')) : Sw K W δ t (tWhile tt tb) R := fun Z H σ D mz al r iw h1 h2 h3 h4 h5 => by
  obtain ⟨m0, v0⟩ := h0
  refine ⟨fun m σ' H' => ∃ δ' t', V m δ' t' ∧ Aft W δ δ' H H' ∧ Rel K Z H' σ' δ' ∧ Iw W t' H', ⟨m0, δ, t, v0, Aft.refl, r, iw⟩, ?_⟩
  rintro m σ' H' ⟨δ', t', v, f, r', i'⟩
  obtain ⟨b, hb, ht, hf⟩ := hs m δ' t' v
  have al' := f.frm.alz al
  refine hb Z H' σ' al' r' _ fun H2 e2 => ?_
  have f2 : Aft W δ δ' H H2 := f.trans (Aft.of (Frm.of e2) fun p h => .inl h)
  cases b with
  | true =>
    dsimp only
    rw [if_pos rfl]
    refine ⟨fun σ3 H3 => ∃ m', m' < m ∧ ∃ δ' t', V m' δ' t' ∧ Aft W δ δ' H H3 ∧ Rel K Z H3 σ3 δ' ∧ Iw W t' H3, fun σ3 H3 p => p, ?_⟩
    refine ht rfl Z H2 σ' _ mz (al'.same e2) (r'.same e2) (i'.same e2) (fun δ3 t3 σ3 H3 q f4 r4 i4 => ?_) (fun d t3 v H3 q f4 i4 hv => ?_) (fun δ3 t3 σ3 H3 q f4 r4 i4 => ?_) (fun δ3 t3 σ3 H3 q f4 r4 i4 => ?_) (fun p x t3 H3 q f4 i4 n4 => h5 p x t3 H3 q (frm_next f2 f4) i4 (n4.back f2))
    · obtain ⟨m', hm, q⟩ := q
      exact ⟨m', hm, δ3, t3, q, f2.trans f4, r4, i4⟩
    · exact h2 d t3 v H3 q (frm_next f2 f4) i4 hv
    · exact h1 δ3 t3 σ3 H3 q (f2.trans f4) r4 i4
    · obtain ⟨m', hm, q⟩ := q
      exact ⟨m', hm, δ3, t3, q, f2.trans f4, r4, i4⟩
  | false =>
    dsimp only
    rw [if_neg (by decide)]
    exact h1 δ' t' σ' H2 (hf rfl) f2 (r'.same e2) (i'.same e2)
/-! ### whole defs -/
theorem own_d (ds : List PyData) : ∀ k, own (ds.map SV.d ++ List.replicate k .u) = [] := fun k => by
  unfold own
  rw [List.flatMap_append]
  have h1 : (ds.map SV.d).flatMap SV.adr = [] := by
    induction ds with
    | nil => rfl
    | cons x r ih => rw [List.map_cons, List.flatMap_cons, ih]; rfl
  have h2 : (List.replicate k SV.u).flatMap SV.adr = [] := by
    induction k with
    | zero => rfl
    | succ k ih => rw [List.replicate_succ, List.flatMap_cons, ih]; rfl
  rw [h1, h2]
  rfl
theorem svOk_eq {Z : Zs} {δ δ' : List SV} {H : Hp} {x : Option (Option V)} {s : SV} (e : Zo Z δ = Zo Z δ') (h : SvOk K Z δ H x s) : SvOk K Z δ' H x s := by
  cases s with
  | u => trivial
  | d d => obtain ⟨v, h1, h2⟩ := h; exact ⟨v, h1, e ▸ h2⟩
  | b d => exact h
  | v v => exact h
  | o p ov => exact ⟨h.1, e ▸ h.2⟩
theorem rel_start {N ps : List Str} {Z : Zs} {H : Hp} {vs : List V} (hv : Dvs K (hid Z H) vs ds) (hl : ds.length = ps.length) (hN : ps.length ≤ N.length) : Rel K Z H (start N vs) (ds.map SV.d ++ List.replicate (N.length - ps.length) .u) := by
  have hvl := hv.len
  have hown : ∀ k, own (ds.map SV.d ++ List.replicate k .u) = [] := own_d ds
  have hz : Zo Z (ds.map SV.d ++ List.replicate (N.length - ps.length) .u) = Z := by
    funext a
    unfold Zo
    rw [hown]
    simp
  refine ⟨?_, fun i s hi => ?_, by rw [hown]; exact List.nodup_nil, fun p hp => by rw [hown] at hp; cases hp⟩
  · unfold L2.start
    rw [List.length_append, List.length_append, List.length_map, List.length_map, List.length_replicate, List.length_replicate]
    omega
  · unfold L2.start
    rcases Nat.lt_or_ge i ds.length with h | h
    · rw [List.getElem?_append_left (by rw [List.length_map]; exact h), List.getElem?_map] at hi
      obtain ⟨d, hd, rfl⟩ := Option.map_eq_some_iff.mp hi
      obtain ⟨v, h1, h2⟩ := hv.get hd
      refine ⟨v, ?_, by rw [hz]; exact h2⟩
      rw [List.getElem?_append_left (by rw [List.length_map]; omega), List.getElem?_map, h1]
      rfl
    · rw [List.getElem?_append_right (by rw [List.length_map]; exact h)] at hi
      have := List.mem_of_getElem? hi
      rw [List.eq_of_mem_replicate this]
      trivial
/-- how a body ends -/
def Fin (P : PyData → Nat → Prop) : Out → Nat → Prop
  | .rt d, t => P d t
  | .nx _, t => P .none t
  | _, _ => False
end
section
variable {P : Program} {w : World} {K : PySem.W.Frag} {mg : Str → Option Value} {base : Heap}
/-- a def on data -/
theorem fun_V {x qual : Str} {st : Stmt} {f : Addr} {fd : FuncData} {N ps : List Str} {k : Nat} (F : Fun K x qual st f fd) (S : FnScope N ps (defScope st)) {G : List PyData → PyData → Prop} (hN : ps.length ≤ N.length) (hl : ∀ ds d, G ds d → ds.length = ps.length)
    (hbody : ∀ (cdv : Value) (A : Around) (outer : List Env) (s : Shared) (H : Hp) (E : XK) (ds : List PyData) (d : PyData), Room k (A.deeper (envOfC qual (defScope st) s.heap.objs.size f cdv)) → G ds d →
      ∃ t, PSs (cxOf CX0 P w K mg base N qual (defScope st) f cdv A outer s H E).nox (defBody st) t ∧ Sw K none (ds.map SV.d ++ List.replicate (N.length - ps.length) .u) 0 t (Fin fun d' _ => d' = d)) : FnOk P w K mg base CX0 (k + 1) f fd ps (spV K G) := by
  refine F.ok S (fun vs H Q E h => ?_) (fun cdv A outer s H vs Q E hr h => ?_)
  · obtain ⟨Z, ds, d, _, hv, hg, _⟩ := h
    rw [hv.len, hl ds d hg]
  · obtain ⟨Z, ds, d, al, hv, hg, q⟩ := h
    obtain ⟨t, ht, hw⟩ := hbody cdv A outer s H E ds d hr hg
    refine ⟨t, ht, hw Z H _ _ ⟨fun a h => (nomatch h), fun pc h => (nomatch h)⟩ al (rel_start hv (hl ds d hg) hN) trivial (fun δ' t' σ' H' e f r i => ?_) (fun d' t' v H' e f i hv' => ?_) (fun δ' t' σ' H' e => e.elim) (fun δ' t' σ' H' e => e.elim) (fun p x t' H' e => e.elim)⟩
    · have e : PyData.none = d := e
      subst e
      exact q _ H' (fun b o hb => f.frm.keep b o hb (mo_f.mpr ⟨rfl, by rw [own_d]; simp⟩)) .non
    · have e : d' = d := e
      subst e
      exact q v H' (fun b o hb => f.keep b o hb (mo_f.mpr ⟨rfl, by rw [own_d]; simp⟩)) hv'
/-- a def with a pen ahead -/
theorem fun_W {x qual : Str} {st : Stmt} {f : Addr} {fd : FuncData} {N ps : List Str} {pn : Str} {k : Nat} (F : Fun K x qual st f fd) (S : FnScope N (pn :: ps) (defScope st)) {P' : List PyData → Nat → Prop} {R : List PyData → PyData → Prop} (hN : ps.length + 1 ≤ N.length) (hl : ∀ ds n, P' ds n → ds.length = ps.length)
    (hbody : ∀ (cdv : Value) (A : Around) (outer : List Env) (s : Shared) (H : Hp) (E : XK) (p : Addr) (c : Addr × List NdefX.NTab) (ds : List PyData) (t n : Nat), Room k (A.deeper (envOfC qual (defScope st) s.heap.objs.size f cdv)) → P' ds n → t + n ≤ 1000000000 →
      ∃ ts, PSs (cxOf CX0 P w K mg base N qual (defScope st) f cdv A outer s H E).nox (defBody st) ts ∧ Sw K (some (p, c)) (.v (.ref p) :: (ds.map SV.d ++ List.replicate (N.length - (ps.length + 1)) .u)) t ts (Fin fun d t' => R ds d ∧ t' ≤ t + n)) : FnOk P w K mg base CX0 (k + 1) f fd (pn :: ps) (spW K P' R) := by
  refine F.ok S (fun vs H Q E h => ?_) (fun cdv A outer s H vs Q E hr h => ?_)
  · obtain ⟨p, c, Z, t, n, rest, ds, rfl, _, _, _, hv, _, hp, _⟩ := h
    rw [List.length_cons, List.length_cons, hv.len, hl ds n hp]
  · obtain ⟨p, c, Z, t, n, rest, ds, rfl, zp, zc, al, hv, pen, hp, ht, q⟩ := h
    obtain ⟨ts, hts, hw⟩ := hbody cdv A outer s H E p (c, []) ds t n hr hp ht
    have hd : Hd (some (p, c, [])) Z := ⟨fun a h => hd_nil zp h, fun pc e => by cases e; exact zc⟩
    have hown : own (SV.v (.ref p) :: (ds.map SV.d ++ List.replicate (N.length - (ps.length + 1)) .u)) = [] := own_d ds _
    have re : Rel K Z H (start N (.ref p :: rest)) (.v (.ref p) :: (ds.map SV.d ++ List.replicate (N.length - (ps.length + 1)) .u)) := by
      cases N with
      | nil => simp at hN
      | cons n0 N' =>
        have r0 := rel_start (N := N') (ps := ps) hv (hl ds n hp) (by simpa using hN)
        have e1 : start (n0 :: N') (.ref p :: rest) = some (.ref p) :: start N' rest := by
          unfold L2.start
          simp
        have e2 : (n0 :: N').length - (ps.length + 1) = N'.length - ps.length := by simp
        rw [e1, e2]
        have hz : Zo Z (SV.v (.ref p) :: (ds.map SV.d ++ List.replicate (N'.length - ps.length) .u)) = Zo Z (ds.map SV.d ++ List.replicate (N'.length - ps.length) .u) := rfl
        refine ⟨by rw [List.length_cons, List.length_cons, r0.len], fun i s hi => ?_, r0.nd, r0.off⟩
        cases i with
        | zero => cases hi; rfl
        | succ i => exact svOk_eq hz.symm (r0.ok i s hi)
    have iw : Iw (some (p, c, [])) t H := ⟨pen, fun x hx => nomatch hx⟩
    have frm : ∀ {H' : Hp}, Frm (Mo (some (p, c, [])) (.v (.ref p) :: (ds.map SV.d ++ List.replicate (N.length - (ps.length + 1)) .u))) H H' → Frm (fun a => decide (a = p)) H H' := fun {H'} f => ⟨fun b o hb m => f.keep b o hb (mo_f.mpr ⟨mw_nil m, by rw [hown]; simp⟩), f.al⟩
    refine ⟨ts, hts, hw Z H _ _ hd al re iw (fun δ' t' σ' H' e f r i => ?_) (fun d' t' v H' e f i hv' => ?_) (fun δ' t' σ' H' e => e.elim) (fun δ' t' σ' H' e => e.elim) (fun p x t' H' e => e.elim)⟩
    · obtain ⟨e1, e2⟩ := e
      exact q _ .none H' (frm f.frm) (i.mono e2).1 e1 .non
    · obtain ⟨e1, e2⟩ := e
      exact q v d' H' (frm f) (i.mono e2).1 e1 hv'
end
end Fd

/-! more that is read, as data -/
namespace Fd
open PySem PySem.Spec PyProof.Rows L2 Fp
section
variable {K : PySem.W.Frag} {lv : Bool} {W : Wd} {δ : List SV} {ta tb te ti td : TE} {tr : TA} {tt : TT} {d x y : PyData} {ds es xs ys : List PyData} {i j : Int} {n m : Nat} {P : PyData → Prop}
theorem r2_ixI (h0 : 0 ≤ i) (h : xs[i.toNat]? = some d) : R2d K (rIxL K) (.list xs) (.int i) d := by
  obtain ⟨k, rfl⟩ : ∃ k : Nat, i = k := ⟨i.toNat, by omega⟩
  exact r2_ix (by simpa using h)
theorem r2_ixTI (h0 : 0 ≤ i) (h : xs[i.toNat]? = some d) : R2d K (rIxT K) (.tuple xs) (.int i) d := by
  obtain ⟨k, rfl⟩ : ∃ k : Nat, i = k := ⟨i.toNat, by omega⟩
  exact r2_ixT (by simpa using h)
theorem r2_mod (h : 0 < j) : R2d K (rI (fun _ j => 0 < j) fun i j => .int (i % j)) (.int i) (.int j) (.int (i % j)) := r2_II (fun _ => .int _) h
theorem r2_fdiv (h : 0 < j) (h2 : j.natAbs.log2 < 9000) : R2d K (rI CDivW fun i j => .int (i / j)) (.int i) (.int j) (.int (i / j)) := r2_II (fun _ => .int _) ⟨h, h2⟩
theorem r2_mul (h : CMul i j) : R2d K (rI CMul fun i j => .int (i * j)) (.int i) (.int j) (.int (i * j)) := r2_II (fun _ => .int _) h
theorem r2_strcat {s t : Str} {g : Str → Str → Str} : R2d K (fun x y H Q => ∃ i j, x = V.str i ∧ y = .str j ∧ Q (.str (g i j)) H) (.str s) (.str t) (.str (g s t)) := fun Z H v w al hv hw Q q => by
  cases hv
  cases hw
  exact ⟨s, t, rfl, rfl, q _ H (Same.refl _) (.str _)⟩
theorem r2_strB {s t : Str} {g : Str → Str → Bool} : R2d K (fun x y H Q => ∃ i j, x = V.str i ∧ y = .str j ∧ Q (.bl (g i j)) H) (.str s) (.str t) (.bool (g s t)) := fun Z H v w al hv hw Q q => by
  cases hv
  cases hw
  exact ⟨s, t, rfl, rfl, q _ H (Same.refl _) (.bl _)⟩
theorem r2_repS {s : Str} (h : MulOk s j) : R2d K rRepS (.str s) (.int j) (.str (Txt.mul s j)) := fun Z H v w al hv hw Q q => by
  cases hv
  cases hw
  exact ⟨s, j, rfl, rfl, h, q _ H (Same.refl _) (.str _)⟩
/-- x in a list (or tuple) of texts, of ints -/
theorem r2_inS {s : Str} {zs : List Str} : R2d K (rIn K false) (.str s) (.list (zs.map .str)) (.bool (decide (s ∈ zs))) := fun Z H v w al hv hw Q q => by
  cases hv
  obtain ⟨a, vs, rfl, ha, hx⟩ := hw.list
  obtain rfl := hx.strs
  refine ⟨a, _, rfl, .inl (.inl (.inl (of_hid ha).1)), rfl, flat_strs _, ?_⟩
  rw [show (if false = true then !inV (V.str s) (zs.map V.str) else inV (V.str s) (zs.map V.str)) = decide (s ∈ zs) from inV_strs s zs]
  exact q _ H (Same.refl _) (.bl _)
theorem r2_notInS {s : Str} {zs : List Str} : R2d K (rIn K true) (.str s) (.list (zs.map .str)) (.bool (!decide (s ∈ zs))) := fun Z H v w al hv hw Q q => by
  cases hv
  obtain ⟨a, vs, rfl, ha, hx⟩ := hw.list
  obtain rfl := hx.strs
  refine ⟨a, _, rfl, .inl (.inl (.inl (of_hid ha).1)), rfl, flat_strs _, ?_⟩
  rw [show (if true = true then !inV (V.str s) (zs.map V.str) else inV (V.str s) (zs.map V.str)) = !decide (s ∈ zs) from by rw [if_pos rfl, inV_strs]]
  exact q _ H (Same.refl _) (.bl _)
theorem r2_inST {s : Str} {zs : List Str} : R2d K (rIn K false) (.str s) (.tuple (zs.map .str)) (.bool (decide (s ∈ zs))) := fun Z H v w al hv hw Q q => by
  cases hv
  obtain ⟨a, vs, rfl, ha, hx⟩ := hw.tuple
  obtain rfl := hx.strs
  refine ⟨a, _, rfl, .inr (same_tup hid_out ha), rfl, flat_strs _, ?_⟩
  rw [show (if false = true then !inV (V.str s) (zs.map V.str) else inV (V.str s) (zs.map V.str)) = decide (s ∈ zs) from inV_strs s zs]
  exact q _ H (Same.refl _) (.bl _)
theorem r2_notInST {s : Str} {zs : List Str} : R2d K (rIn K true) (.str s) (.tuple (zs.map .str)) (.bool (!decide (s ∈ zs))) := fun Z H v w al hv hw Q q => by
  cases hv
  obtain ⟨a, vs, rfl, ha, hx⟩ := hw.tuple
  obtain rfl := hx.strs
  refine ⟨a, _, rfl, .inr (same_tup hid_out ha), rfl, flat_strs _, ?_⟩
  rw [show (if true = true then !inV (V.str s) (zs.map V.str) else inV (V.str s) (zs.map V.str)) = !decide (s ∈ zs) from by rw [if_pos rfl, inV_strs]]
  exact q _ H (Same.refl _) (.bl _)
theorem inV_ints (z : Int) (zs : List Int) : inV (.int z) (zs.map V.int) = decide (z ∈ zs) := by
  unfold inV
  rw [List.any_map]
  induction zs with
  | nil => rfl
  | cons y r ih =>
    rw [List.any_cons, ih]
    by_cases h : z = y
    · subst h
      simp [eqV]
    · simp [eqV, h]
      intro e
      exact absurd e.symm h
theorem flat_ints (zs : List Int) : (zs.map V.int).all flatV = true := by
  rw [List.all_map]
  exact List.all_eq_true.mpr fun z _ => rfl
theorem r2_inI {s : Int} {zs : List Int} : R2d K (rIn K false) (.int s) (.list (zs.map .int)) (.bool (decide (s ∈ zs))) := fun Z H v w al hv hw Q q => by
  cases hv
  obtain ⟨a, vs, rfl, ha, hx⟩ := hw.list
  obtain rfl := hx.ints
  refine ⟨a, _, rfl, .inl (.inl (.inl (of_hid ha).1)), rfl, flat_ints _, ?_⟩
  rw [show (if false = true then !inV (V.int s) (zs.map V.int) else inV (V.int s) (zs.map V.int)) = decide (s ∈ zs) from inV_ints s zs]
  exact q _ H (Same.refl _) (.bl _)
theorem r2_notInI {s : Int} {zs : List Int} : R2d K (rIn K true) (.int s) (.list (zs.map .int)) (.bool (!decide (s ∈ zs))) := fun Z H v w al hv hw Q q => by
  cases hv
  obtain ⟨a, vs, rfl, ha, hx⟩ := hw.list
  obtain rfl := hx.ints
  refine ⟨a, _, rfl, .inl (.inl (.inl (of_hid ha).1)), rfl, flat_ints _, ?_⟩
  rw [show (if true = true then !inV (V.int s) (zs.map V.int) else inV (V.int s) (zs.map V.int)) = !decide (s ∈ zs) from by rw [if_pos rfl, inV_ints]]
  exact q _ H (Same.refl _) (.bl _)
/-! built-ins -/
theorem two_ints {H : Hp} {vs : List V} (h : Dvs K H vs [.int i, .int j]) : vs = [.int i, .int j] := by
  cases h with
  | cons a b =>
    cases b with
    | cons b c =>
      cases a; cases b; cases c
      rfl
theorem ra_two {g : Int → Int → Int} : RAd K (fun xs H Q => ∃ i j, xs = [V.int i, .int j] ∧ Q (.int (g i j)) H) [.int i, .int j] (.int (g i j)) := fun Z H vs al h Q q => ⟨i, j, two_ints h, q _ H (Same.refl _) (.int _)⟩
theorem ra_strI (h : i.natAbs.log2 < 1920) : RAd K rStrI [.int i] (.str (nS i)) := fun Z H vs al hv Q q => by
  cases hv with
  | cons a b =>
    cases b
    cases a
    exact ⟨i, rfl, h, q _ H (Same.refl _) (.str _)⟩
theorem ra_lenS {s : Str} (h : s.length ≤ sizeLine) : RAd K (fun xs H Q => ∃ z : Str, xs = [V.str z] ∧ z.length ≤ sizeLine ∧ Q (.int z.length) H) [.str s] (.int s.length) := fun Z H vs al hv Q q => by
  cases hv with
  | cons a b =>
    cases b
    cases a
    exact ⟨s, rfl, h, q _ H (Same.refl _) (.int _)⟩
theorem ra_sum {zs : List Int} : RAd K (rSum K) [.list (zs.map .int)] (.int zs.sum) := fun Z H vs al h Q q => by
  obtain ⟨a, ws, rfl, ha, hv⟩ := one_list h
  obtain rfl := hv.ints
  exact ⟨_, _, rfl, .inl (.inl (of_hid ha).1), q _ H (Same.refl _) (.int _)⟩
/-! slices, list(range), reversed -/
theorem ev_from (h : Ev K lv δ te (.list ds)) (hi : Ev K lv δ ti (.int (n : Nat))) : Ev K lv δ (tSl (rSlL K) te (tPart ti) tNoPart) (.list (ds.drop n)) := fun Z H σ al r Q q =>
  h Z H σ al r _ fun v H1 e1 hv => hi Z H1 σ (al.same e1) (r.same e1) _ fun w H2 e2 hw => by
    cases hw
    obtain ⟨a, vs, rfl, ha, hx⟩ := (hv.same (same_hid e2)).list
    refine ⟨_, rfl, _, _, rfl, .inl (.inl (of_hid ha).1), fun p hp => ?_⟩
    rw [cut_from]
    exact q _ _ (Same.new (e1.trans e2) hp) (.lst (hid_new ((r.all al lv).same (e1.trans e2)) hp) ((hx.drop n).same (same_hid (same_new hp))))
theorem ev_to (h : Ev K lv δ te (.list ds)) (hi : Ev K lv δ ti (.int (n : Nat))) : Ev K lv δ (tSl (rSlL K) te tNoPart (tPart ti)) (.list (ds.take n)) := fun Z H σ al r Q q =>
  h Z H σ al r _ fun v H1 e1 hv => hi Z H1 σ (al.same e1) (r.same e1) _ fun w H2 e2 hw => by
    cases hw
    obtain ⟨a, vs, rfl, ha, hx⟩ := (hv.same (same_hid e2)).list
    refine ⟨_, rfl, _, _, rfl, .inl (.inl (of_hid ha).1), fun p hp => ?_⟩
    rw [cut_to]
    exact q _ _ (Same.new (e1.trans e2) hp) (.lst (hid_new ((r.all al lv).same (e1.trans e2)) hp) ((hx.take n).same (same_hid (same_new hp))))
theorem ev_revL (h : Ev K lv δ te (.list ds)) : Ev K lv δ (tRevL K te) (.list ds.reverse) := fun Z H σ al r Q q => h Z H σ al r _ fun v H1 e1 hv => by
  obtain ⟨a, vs, rfl, ha, hx⟩ := hv.list
  exact ⟨a, vs, rfl, .inl (.inl (of_hid ha).1), fun p hp => q _ _ (Same.new e1 hp) (.lst (hid_new ((r.all al lv).same e1) hp) (hx.rev.same (same_hid (same_new hp))))⟩
theorem dvs_rg {H : Hp} (a b : Int) : Dvs K H (rgV a b) (rngD a (b - a).toNat) := by
  have h : ∀ l : List Nat, Dvs K H (l.map fun (i : Nat) => V.int (a + i)) (l.map fun (i : Nat) => PyData.int (a + i)) := fun l => by
    induction l with
    | nil => exact .nil
    | cons x r ih => exact .cons (.int _) ih
  exact h _
theorem ev_listRg (h : Ev K lv δ te (.int i)) (hi : i ≤ 100000) (h2 : -100000 ≤ i) : Ev K l1 δ (tLstRg (tRg1 te)) (.list (rngD 0 i.toNat)) := fun Z H σ al r Q q => h Z H σ al r _ fun v H1 e1 hv => by
  cases hv
  refine ⟨i, rfl, ⟨by omega, by omega, by omega, by omega, by omega⟩, fun p hp => q _ _ (Same.new e1 hp) ?_⟩
  have := dvs_rg (K := K) (H := hid (Zl l1 Z δ) (upd H1 p (.lst (rgV 0 i)))) 0 i
  rw [Int.sub_zero] at this
  exact .lst (hid_new ((r.all al l1).same e1) hp) this
/-! dicts -/
theorem rel_key {H : Hp} {v : V} {k : Key} (h : Dv K H v (keyD k)) : v = kV k := by
  cases k with
  | inl i => exact h.num
  | inr z => exact h.txt
theorem dv_get {Z : Zs} {H : Hp} {v w : V} {k : Key} (h : Dv K (hid Z H) v (dkD es')) (hk : Dv K (hid Z H) w (keyD k)) : ∃ a kvs, v = .ref a ∧ H a = some (.dK kvs) ∧ DGet H a w (valV kvs k) ∧ (∀ d, lkD k es' = some d → ∃ u, valV kvs k = some u ∧ Dv K (hid Z H) u d) ∧ (lkD k es' = none → valV kvs k = none) := by
  obtain ⟨a, kvs, rfl, ha, hx⟩ := h.dict
  obtain rfl := rel_key hk
  obtain ⟨g1, g2⟩ := hx.get (k := k)
  exact ⟨a, kvs, rfl, (of_hid ha).1, DGet.k (of_hid ha).1, g1, g2⟩
theorem ev_get2 {k : Key} {es' : List (PyData × PyData)} (h : Ev K lv δ td (dkD es')) (hk : Ev K lv δ ti (keyD k)) (hx : Ev K lv δ te x) : Ev K lv δ (tDGet2 td ti te) ((lkD k es').getD x) := fun Z H σ al r Q q =>
  h Z H σ al r _ fun v H1 e1 hv => by
    obtain ⟨a, kvs, rfl, ha, hx0⟩ := hv.dict
    refine ⟨a, rfl, .inl ⟨kvs, .inl (of_hid ha).1⟩, hk Z H1 σ (al.same e1) (r.same e1) _ fun w H2 e2 hw => hx Z H2 σ (al.same (e1.trans e2)) (r.same (e1.trans e2)) _ fun u H3 e3 hu => ?_⟩
    obtain ⟨a', kvs', ea, ha', hg, g1, g2⟩ := dv_get (hv.same (same_hid (e2.trans e3))) (hw.same (same_hid e3))
    cases ea
    refine ⟨_, hg, ?_⟩
    cases q2 : lkD k es' with
    | none =>
      rw [g2 q2]
      rw [q2] at q
      exact q _ H3 ((e1.trans e2).trans e3) hu
    | some d =>
      obtain ⟨z, hz, hd⟩ := g1 d q2
      rw [hz]
      rw [q2] at q
      exact q _ H3 ((e1.trans e2).trans e3) hd
theorem ev_dget {k : Key} {es' : List (PyData × PyData)} (h : Ev K lv δ td (dkD es')) (hk : Ev K lv δ ti (keyD k)) (hd : lkD k es' = some d) : Ev K lv δ (tDGet td ti) d := fun Z H σ al r Q q =>
  h Z H σ al r _ fun v H1 e1 hv => hk Z H1 σ (al.same e1) (r.same e1) _ fun w H2 e2 hw => by
    obtain ⟨a, kvs, rfl, ha, hg, g1, g2⟩ := dv_get (hv.same (same_hid e2)) hw
    obtain ⟨z, hz, hd⟩ := g1 d hd
    rw [hz] at hg
    exact ⟨a, z, rfl, hg, q _ H2 (e1.trans e2) hd⟩
/-- the pairs of a written dict -/
inductive EvP (K : PySem.W.Frag) (lv : Bool) (δ : List SV) : List (TE × TE) → List (Key × PyData) → Prop
  | nil : EvP K lv δ [] []
  | cons {tk tv : TE} {k : Key} {d : PyData} {r : List (TE × TE)} {ps : List (Key × PyData)} : Ev K lv δ tk (keyD k) → Ev K lv δ tv d → EvP K lv δ r ps → EvP K lv δ ((tk, tv) :: r) ((k, d) :: ps)
def meD (ps : List (Key × PyData)) (es : List (PyData × PyData)) : List (PyData × PyData) := ps.foldl (fun acc p => puD p.1 p.2 acc) es
/-- a new dict comes -/
def EvOD (K : PySem.W.Frag) (δ : List SV) (te : TE) (es : List (PyData × PyData)) : Prop := ∀ (Z : Zs) (H : Hp) (σ : L2.St), Al Z H → Rel K Z H σ δ → ∀ Q : VK, (∀ p kvs H', Same H H' → H p = none → H' p = some (.dK kvs) → Dvk K (hid (Zo Z δ) (del H' p)) kvs es → Q (.ref p) H') → te σ H Q
theorem dvk_me {H : Hp} : ∀ {qs : List (Key × V)} {ps : List (Key × PyData)} {kvs : List (Key × V)} {es : List (PyData × PyData)}, qs.map (·.1) = ps.map (·.1) → Dvs K H (qs.map (·.2)) (ps.map (·.2)) → Dvk K H kvs es → Dvk K H (mergeK kvs qs) (meD ps es)
  | [], [], _, _, _, _, h => h
  | (k, v) :: qs, (k', d) :: ps, kvs, es, hk, hv, h => by
    rw [List.map_cons, List.map_cons] at hk hv
    injection hk with hk1 hk2
    have hk1 : k = k' := hk1
    subst hk1
    cases hv with
    | cons a b =>
      show Dvk K H (mergeK (putK kvs k v) qs) (meD ps (puD k d es))
      exact dvk_me hk2 b (puD_dvk h a)
  | [], _ :: _, _, _, hk, _, _ => nomatch hk
  | _ :: _, [], _, _, hk, _, _ => nomatch hk
theorem evp_go {Z : Zs} {D : Addr} {trs : List (TE × TE)} {ps : List (Key × PyData)} (h : EvP K true δ trs ps) : ∀ {H : Hp} {σ : L2.St}, Al Z H → Rel K Z H σ δ → ∀ Q : List (V × V) → Hp → Prop, (∀ (qs : List (Key × V)) H', Same H H' → qs.map (·.1) = ps.map (·.1) → Dvs K (hid (Zo Z δ) H') (qs.map (·.2)) (ps.map (·.2)) → Q (qs.map fun q => (kV q.1, q.2)) H') → tPairs trs σ H Q := by
  induction h with
  | nil => exact fun al r Q q => q [] _ (Same.refl _) rfl .nil
  | cons hk hv hr ih =>
    rename_i tk tv k d r ps
    intro H σ al re Q q
    refine hk Z H σ al re _ fun v H1 e1 h1 => hv Z H1 σ (al.same e1) (re.same e1) _ fun w H2 e2 h2 => ?_
    refine ih (al.same (e1.trans e2)) (re.same (e1.trans e2)) _ fun qs H3 e3 hq hd => ?_
    obtain rfl := rel_key h1
    exact q ((k, w) :: qs) H3 ((e1.trans e2).trans e3) (by rw [List.map_cons, List.map_cons, hq]) (.cons (h2.same (same_hid e3)) hd)
theorem evo_disp {trs : List (TE × TE)} {ps : List (Key × PyData)} (h : EvP K true δ trs ps) (hl : ps.length ≤ 15) : EvOD K δ (tDisp trs) (meD ps []) := fun Z H σ al r Q q => by
  intro p hp
  have e0 : Same H (upd H p (.dK [])) := same_new hp
  have hZ : ∀ b, addZ Z p b = true → Z b = true ∨ H b = none := fun b hb => (addZ_t hb).imp id fun w => by rw [w]; exact hp
  have al2 : Al (addZ Z p) (upd H p (.dK [])) := fun b hb => by
    rcases addZ_t hb with w | w
    · exact al.same e0 b w
    · rw [w, upd_same]; intro z; cases z
  refine evp_go (Z := addZ Z p) (D := p) h al2 (r.hide (fun b o h _ => e0 b o h) hZ al) _ fun qs H' e hq hd => ⟨e _ _ upd_same, qs, rfl, ?_, ?_⟩
  · have := congrArg List.length hq
    rw [List.length_map, List.length_map] at this
    omega
  · refine q p _ _ (Same.mut (e0.trans e) hp) hp upd_same ?_
    refine dvk_me hq (hd.same (hid_sub fun b o hb z => ?_)) .nil
    obtain ⟨z1, z2⟩ := zo_f.mp z
    have nb : b ≠ p := fun w => by rw [w] at z1; unfold addZ at z1; rw [decide_eq_true rfl, Bool.or_true] at z1; cases z1
    refine ⟨?_, zo_f.mpr ⟨?_, z2⟩⟩
    · rw [del_ne nb, upd_ne nb]
      exact hb
    · unfold addZ at z1
      exact (Bool.or_eq_false_iff.mp z1).1
theorem EvOD.ev {es : List (PyData × PyData)} (h : EvOD K δ te es) : Ev K lv δ te (dkD es) := Ev.low fun Z H σ al r Q q => h Z H σ al r _ fun p kvs H1 e hp h1 hk => q _ H1 e (.dk (hid_in h1 ((r.alo al).off hp)) (hk.same (same_hid fun b o hb => by
  by_cases z : b = p
  · rw [z, del_same] at hb; cases hb
  · rw [del_ne z] at hb; exact hb)))
/-- x = {..} a dict of its own -/
theorem sw_newD {R : Out → Nat → Prop} {t i : Nat} {es : List (PyData × PyData)} (h : EvOD K δ te es) (hi : i < δ.length) (q : ∀ p, R (.nx (δ.set i (.o p (.dk es)))) t) : Sw K W δ t (tAsg te (gName i)) R := fun Z H σ D mz al r iw h1 h2 h3 h4 h5 =>
  h Z H σ al r _ fun p xs H1 e1 hp hl hx => h1 _ t _ H1 (q p) (Aft.of (Frm.of e1) fun b hb => by
    rcases own_set δ i b hb with w | w
    · have w : b ∈ [p] := w
      rw [List.mem_singleton.mp w]
      exact .inr hp
    · exact .inl w) (r.mine (x := .dk es) al e1 (fun a ha => by have ha : a ∈ [p] := ha; rw [List.mem_singleton.mp ha]; exact hp) (List.nodup_cons.mpr ⟨by simp, List.nodup_nil⟩) (fun Hh s => ⟨xs, hl, hx.same (Same.trans (hid_sub fun a o ha z => ⟨by
      have na : a ≠ p := fun w => by rw [w, del_same] at ha; cases ha
      rw [del_ne na] at ha
      have : a ∉ OV.adrs p (.dk es) := fun m => na (List.mem_singleton.mp (show a ∈ [p] from m))
      simp only [this, if_false]
      exact ha, z⟩) s)⟩) hi) (iw.same e1)
/-- d[k] = e, d its own -/
theorem sw_dput {R : Out → Nat → Prop} {t i : Nat} {p : Addr} {k : Key} {es : List (PyData × PyData)} (h : δ[i]? = some (.o p (.dk es))) (he : Ev K true δ te d) (hk : Ev K lv δ ti (keyD k)) (hl : es.length < 100000) (q : R (.nx ((fgt δ).set i (.o p (.dk (puD k d es))))) t) :
    Sw K W δ t (sDPut (tVar i) ti te) R := fun Z H σ D mz al r iw h1 h2 h3 h4 h5 => he Z H σ al r _ fun v H1 e1 hv => by
  have r1 := r.same e1
  refine ⟨_, (r1.ok i _ h).1, hk Z H1 σ (al.same e1) r1 _ fun w H2 e2 hw => ?_⟩
  obtain rfl := rel_key hw
  have r2 := r1.same e2
  obtain ⟨_, kvs, g1, g2⟩ := r2.ok i _ h
  have pm : p ∈ OV.adrs p (.dk es) := List.mem_singleton.mpr rfl
  have len : kvs.length = es.length := by
    clear q hl h g1 pm
    induction es generalizing kvs with
    | nil => cases g2; rfl
    | cons x r ih =>
      cases g2 with
      | cons a b => rw [List.length_cons, List.length_cons, ih _ b]
  refine ⟨p, _, rfl, DPut.k g1 (Nat.lt_of_lt_of_le (by rw [len]; exact hl) (show 100000 ≤ sizeLine by decide)), h1 _ t _ _ q (Aft.chg (Frm.of (e1.trans e2)) h rfl (upd_keep pm) upd_al) (r2.chg h rfl (upd_keep pm) ⟨_, upd_same, (puD_dvk g2 (hv.same (same_hid e2))).same (hid_sub fun a o ha z => ⟨?_, z⟩)⟩) ((iw.same (e1.trans e2)).wr mz (r.off p (own_mem h)) g1)⟩
  rw [upd_ne (fun w => (zo_f.mp z).2 (by rw [w]; exact own_mem h))]
  exact ha
end
end Fd

/-! new lists by comprehensions, rows of rows, what is handed back whole -/
namespace Fd
open PySem PySem.Spec PyProof.Rows L2 Fp
section
variable {K : PySem.W.Frag} {lv st : Bool} {W : Wd} {δ δ1 δ2 : List SV} {t : Nat} {a b u : TS} {R S : Out → Nat → Prop} {te ta tb : TE} {ti : TI} {tr : TA} {tt : TT} {d x y : PyData} {ds es xs : List PyData} {i j l n m k : Nat} {P : PyData → Prop} {g : TG} {c : Bool} {p q : Addr}
theorem own_adr : ∀ {δ : List SV} {i : Nat} {s : SV}, (own δ).Nodup → δ[i]? = some s → s.adr.Nodup
  | x :: r, 0, s, nd, h => by
    cases h
    have nd : (List.flatMap SV.adr (x :: r)).Nodup := nd
    rw [List.flatMap_cons] at nd
    exact (List.nodup_append.mp nd).1
  | x :: r, i + 1, s, nd, h => by
    have nd : (List.flatMap SV.adr (x :: r)).Nodup := nd
    rw [List.flatMap_cons] at nd
    exact own_adr (δ := r) (List.nodup_append.mp nd).2.1 h
theorem nodup_at {l : List Addr} (h : l.Nodup) {i j : Nat} {x : Addr} (a : l[i]? = some x) (b : l[j]? = some x) : i = j := by
  obtain ⟨h1, e1⟩ := List.getElem?_eq_some_iff.mp a
  obtain ⟨h2, e2⟩ := List.getElem?_eq_some_iff.mp b
  exact (List.getElem_inj h).mp (e1.trans e2.symm)
/-- a comprehension makes a new list -/
theorem evo_lc {α : Type} {vs : List Nat} {dat : α → PyData} {fb : α → Bool} {fv : α → PyData} {as : List α} (hi : EvI K true st δ ti (as.map dat)) (hu : vs.all (fun j => (δ.getD j .u).isU) = true) (hn : as.length < 100000)
    (hs : ∀ a, a ∈ as → ∃ δ', own δ' = own δ ∧ Tg K true δ vs g (dat a) δ' ∧ EvB K δ' tt (fb a) ∧ (fb a = true → Ev K true δ' te (fv a))) : EvO K δ (tLc ti g tt te vs) ((as.filter fb).map fv) := fun Z H σ al r Q q => by
  rw [lc_G]
  refine hi Z H σ al r _ fun J H1 e1 jd => ?_
  have al1 := al.same e1
  have r1 := r.same e1
  refine lcg_jd jd (fun D i acc H' => Same H1 H' ∧ H' D = some (.lst acc) ∧ Dvs K (hid (Zl true (addZ Z D) δ) H') acc (((as.take i).filter fb).map fv)) (fun D hD => ⟨same_new hD, upd_same, .nil⟩) (fun D i acc H' _ _ p => Stb.of p.1) (fun D i x d acc H2 H' hD hd p e2 hx => ?_) (fun D acc H' hD p => ?_)
  · obtain ⟨p1, p2, p3⟩ := p
    rw [List.getElem?_map] at hd
    obtain ⟨a, ha, rfl⟩ := Option.map_eq_some_iff.mp hd
    have hil : i < as.length := (List.getElem?_eq_some_iff.mp ha).1
    obtain ⟨δ', ho, htg, htt, hte⟩ := hs a (List.mem_of_getElem? ha)
    have hZ : ∀ b, addZ Z D b = true → Z b = true ∨ H1 b = none := fun b hb => (addZ_t hb).imp id fun w => by rw [w]; exact hD
    have al2 : Al (addZ Z D) H2 := fun b hb => by
      rcases addZ_t hb with w | w
      · exact al1.same p1 b w
      · rw [w, p2]; intro z; cases z
    have r2 : Rel K (addZ Z D) H' (L2.wipe σ vs) δ := (r1.hide (fun b o h _ => p1.trans e2 b o h) hZ al1).wipe hu
    have hx2 : Dv K (hid (Zl true (addZ Z D) δ) H') x (dat a) := hx (Zl true (addZ Z D) δ) (zl_add hZ) ((r1.hide (fun b o h _ => p1 b o h) hZ al1).all al2 true)
    refine htg (addZ Z D) H' (L2.wipe σ vs) x (al2.same e2) r2 hx2 _ fun σ2 r3 w3 => ⟨w3.trans wipe_wipe, ?_⟩
    refine htt (addZ Z D) H' σ2 (al2.same e2) r3 _ fun H3 e3 => ?_
    have p23 : Same H2 H3 := e2.trans e3
    have tk : (((as.take (i + 1)).filter fb).map fv) = ((as.take i).filter fb).map fv ++ (if fb a = true then [fv a] else []) := by
      rw [List.take_add_one, ha, List.filter_append, List.map_append]
      cases h : fb a with
      | true => simp [h]
      | false => simp [h]
    split
    · rename_i hb
      refine hte hb (addZ Z D) H3 σ2 (al2.same p23) (r3.same e3) _ fun v H4 e4 hv => ?_
      have p24 : Same H2 H4 := p23.trans e4
      refine ⟨acc, p24 _ _ p2, ?_, acc ++ [v], Same.mut (p1.trans p24) hD, upd_same, ?_⟩
      · refine Nat.lt_of_lt_of_le (Nat.lt_of_le_of_lt (?_ : _ ≤ as.length) hn) (by decide)
        rw [p3.len, List.length_map]
        exact Nat.le_trans (List.length_filter_le _ _) (by rw [List.length_take]; exact Nat.min_le_right _ _)
      · rw [tk, if_pos hb]
        have hz : Zl true (addZ Z D) δ' = Zl true (addZ Z D) δ := by unfold Zl Zo; rw [ho]
        rw [hz] at hv
        have mv : ∀ {H5 : Hp}, Same (hid (Zl true (addZ Z D) δ) H5) (hid (Zl true (addZ Z D) δ) (upd H5 D (.lst (acc ++ [v])))) := fun {H5} => hid_sub fun b o hb z => by
          refine ⟨?_, z⟩
          rw [upd_ne]
          · exact hb
          · intro w
            have := zl_out z
            rw [w] at this
            unfold addZ at this
            rw [decide_eq_true rfl, Bool.or_true] at this
            cases this
        exact ((p3.same (same_hid p24)).same mv).app (.cons (hv.same mv) .nil)
    · rename_i hb
      refine ⟨acc, p1.trans p23, p23 _ _ p2, ?_⟩
      rw [tk, if_neg hb, List.append_nil]
      exact p3.same (same_hid p23)
  · obtain ⟨p1, p2, p3⟩ := p
    rw [List.length_map, List.take_length] at p3
    refine q D acc H' (e1.trans p1) ((Frm.of (M := fun _ => false) e1).none hD) p2 (p3.same (hid_sub fun b o hb z => ?_))
    have z1 := zl_out z
    have nb : b ≠ D := fun w => by rw [w] at z1; unfold addZ at z1; rw [decide_eq_true rfl, Bool.or_true] at z1; cases z1
    have hz : Same (hid (Zl true (addZ Z D) δ) H') (hid (Zl true Z δ) H') := zl_back
    obtain ⟨h1, h2⟩ := of_hid (hz b o (hid_in hb z))
    exact ⟨by rw [del_ne nb]; exact h1, h2⟩
/-- new rows of numbers -/
def EvM (K : PySem.W.Frag) (δ : List SV) (te : TE) (E : List (List Int)) : Prop := ∀ (Z : Zs) (H : Hp) (σ : L2.St), Al Z H → Rel K Z H σ δ → ∀ Q : VK, (∀ p rs H', Same H H' → (∀ a ∈ p :: rs, H a = none) → (p :: rs).Nodup → MatAt H' p rs E → Q (.ref p) H') → te σ H Q
theorem evm_lc {α : Type} {vs : List Nat} {dat : α → PyData} {fv : α → List Int} {as : List α} (hi : EvI K true st δ ti (as.map dat)) (hu : vs.all (fun j => (δ.getD j .u).isU) = true) (hn : as.length < 100000)
    (hs : ∀ a, a ∈ as → ∃ δ', own δ' = own δ ∧ Tg K true δ vs g (dat a) δ' ∧ EvO K δ' te ((fv a).map .int)) : EvM K δ (tLc ti g tYes te vs) (as.map fv) := fun Z H σ al r Q q => by
  rw [lc_G]
  refine hi Z H σ al r _ fun J H1 e1 jd => ?_
  have al1 := al.same e1
  have r1 := r.same e1
  refine lcg_jd jd (fun D i acc H' => Same H1 H' ∧ ∃ rs : List Addr, acc = rs.map V.ref ∧ MatAt H' D rs ((as.take i).map fv) ∧ (∀ a ∈ rs, H1 a = none) ∧ (D :: rs).Nodup) (fun D hD => ⟨same_new hD, [], rfl, ⟨upd_same, rfl, fun i r row h _ => by simp at h⟩, by simp, by simp⟩) (fun D i acc H' _ _ p => Stb.of p.1) (fun D i x d acc H2 H' hD hd p e2 hx => ?_) (fun D acc H' hD p => ?_)
  · obtain ⟨p1, rs, rfl, ⟨p2, p3, p4⟩, p5, p6⟩ := p
    rw [List.getElem?_map] at hd
    obtain ⟨a, ha, rfl⟩ := Option.map_eq_some_iff.mp hd
    have hil : i < as.length := (List.getElem?_eq_some_iff.mp ha).1
    obtain ⟨δ', ho, htg, hte⟩ := hs a (List.mem_of_getElem? ha)
    have hZ : ∀ b, addZ Z D b = true → Z b = true ∨ H1 b = none := fun b hb => (addZ_t hb).imp id fun w => by rw [w]; exact hD
    have al2 : Al (addZ Z D) H2 := fun b hb => by
      rcases addZ_t hb with w | w
      · exact al1.same p1 b w
      · rw [w, p2]; intro z; cases z
    have r2 : Rel K (addZ Z D) H' (L2.wipe σ vs) δ := (r1.hide (fun b o h _ => p1.trans e2 b o h) hZ al1).wipe hu
    have hx2 : Dv K (hid (Zl true (addZ Z D) δ) H') x (dat a) := hx (Zl true (addZ Z D) δ) (zl_add hZ) ((r1.hide (fun b o h _ => p1 b o h) hZ al1).all al2 true)
    refine htg (addZ Z D) H' (L2.wipe σ vs) x (al2.same e2) r2 hx2 _ fun σ2 r3 w3 => ⟨w3.trans wipe_wipe, ?_⟩
    unfold tYes
    dsimp only
    rw [if_pos rfl]
    refine hte (addZ Z D) H' σ2 (al2.same e2) r3 _ fun p xs H4 e4 hp hl hv => ?_
    obtain rfl := hv.ints
    have p24 : Same H2 H4 := e2.trans e4
    have hp2 : H2 p = none := (Frm.of (M := fun _ => false) e2).none hp
    have npD : p ≠ D := fun w => by rw [w, p2] at hp2; cases hp2
    have len : rs.length = i := by rw [p3, List.length_map, List.length_take]; omega
    have hpr : p ∉ rs := fun m => by
      obtain ⟨k, hk, rfl⟩ := List.getElem_of_mem m
      have hk2 : k < ((as.take i).map fv).length := by rw [← p3]; exact hk
      rw [p4 k _ _ (List.getElem?_eq_getElem hk) (List.getElem?_eq_getElem hk2)] at hp2
      cases hp2
    refine ⟨rs.map V.ref, p24 _ _ p2, ?_, rs.map V.ref ++ [.ref p], Same.mut (p1.trans p24) hD, rs ++ [p], by simp, ⟨?_, ?_, fun k r' row h1 h2 => ?_⟩, fun b hb => ?_, ?_⟩
    · rw [List.length_map, len]
      exact Nat.lt_of_lt_of_le (Nat.lt_trans hil hn) (by decide)
    · rw [upd_same]
      simp
    · rw [List.length_append, len, List.length_map, List.length_take]
      simp
      omega
    · have tk : (as.take (i + 1)).map fv = (as.take i).map fv ++ [fv a] := by
        rw [List.take_add_one, ha, List.map_append]
        rfl
      rw [tk] at h2
      have l1 : ((as.take i).map fv).length = rs.length := p3.symm
      rcases Nat.lt_or_ge k rs.length with h | h
      · rw [List.getElem?_append_left h] at h1
        rw [List.getElem?_append_left (by rw [l1]; exact h)] at h2
        have := p24 _ _ (p4 k r' row h1 h2)
        rw [upd_ne]
        · exact this
        · intro w
          rw [w] at h1
          exact (List.nodup_cons.mp p6).1 (List.mem_of_getElem? h1)
      · rw [List.getElem?_append_right h] at h1
        have hk : k = rs.length := by
          have := (List.getElem?_eq_some_iff.mp h1).1
          simp at this
          omega
        subst hk
        rw [Nat.sub_self] at h1
        cases h1
        rw [List.getElem?_append_right (by rw [l1]; exact Nat.le_refl _), l1, Nat.sub_self] at h2
        cases h2
        rw [upd_ne npD]
        exact hl
    · rcases List.mem_append.mp hb with hb | hb
      · exact p5 b hb
      · rw [List.mem_singleton.mp hb]
        exact (Frm.of (M := fun _ => false) p1).none hp2
    · have h1 := List.nodup_cons.mp p6
      refine List.nodup_cons.mpr ⟨fun m => ?_, List.nodup_append.mpr ⟨h1.2, by simp, fun x hx y hy e => ?_⟩⟩
      · rcases List.mem_append.mp m with m | m
        · exact h1.1 m
        · exact npD (List.mem_singleton.mp m).symm
      · rw [List.mem_singleton.mp hy] at e
        rw [e] at hx
        exact hpr hx
  · obtain ⟨p1, rs, rfl, pm, p5, p6⟩ := p
    rw [List.length_map, List.take_length] at pm
    refine q D rs H' (e1.trans p1) (fun b hb => (Frm.of (M := fun _ => false) e1).none ?_) p6 pm
    rcases List.mem_cons.mp hb with w | w
    · rw [w]; exact hD
    · exact p5 b w
theorem sw_newM {E : List (List Int)} (h : EvM K δ te E) (hi : i < δ.length) (q : ∀ p rs, rs.length = E.length → R (.nx (δ.set i (.o p (.mat rs E)))) t) : Sw K W δ t (tAsg te (gName i)) R := fun Z H σ D mz al r iw h1 h2 h3 h4 h5 =>
  h Z H σ al r _ fun p rs H1 e1 hp nd hm => h1 _ t _ H1 (q p rs hm.2.1) (Aft.of (Frm.of e1) fun b hb => by
    rcases own_set δ i b hb with w | w
    · exact .inr (hp b w)
    · exact .inl w) (r.mine (x := .mat rs E) al e1 hp nd (fun Hh s => hm) hi) (iw.same e1)
/-- a row of its own rows of numbers -/
theorem sw_row {E : List (List Int)} {rs : List Addr} {r' : Addr} (h : δ[i]? = some (.o p (.mat rs E))) (he : Ev K lv δ te (.int (k : Nat))) (hk : rs[k]? = some r') (q : R (.nx (δ.set j (.v (.ref r')))) t) : Sw K W δ t (tAsg (tOp (rIxL K) (tVar i) te) (gName j)) R := fun Z H σ D mz al r iw h1 h2 h3 h4 h5 => by
  refine ⟨_, (r.ok i _ h).1, he Z H σ al r _ fun w H1 e1 hw => ?_⟩
  cases hw
  obtain ⟨_, hm⟩ := (r.same e1).ok i _ h
  refine ⟨_, _, _, .ref r', rfl, rfl, .inl (.inl hm.1), atI_nat (by rw [List.getElem?_map, hk]; rfl), ?_⟩
  exact h1 _ t _ H1 q (Aft.of (Frm.of e1) fun p hp => .inl (own_put rfl p hp)) ((r.same e1).put rfl rfl) (iw.same e1)
theorem sw_rowset {E : List (List Int)} {rs : List Addr} {r' : Addr} {row : List Int} {z : Int} (h : δ[i]? = some (.o p (.mat rs E))) (hj : δ[j]? = some (.v (.ref r'))) (hk : rs[k]? = some r') (hrow : E[k]? = some row) (he : Ev K lv δ te (.int z)) (hi : Ev K lv δ ta (.int (m : Nat))) (hm : m < row.length)
    (q : R (.nx ((fgt δ).set i (.o p (.mat rs (E.set k (row.set m z)))))) t) : Sw K W δ t (tAsg te (gSub (tVar j) ta rSetL)) R := fun Z H σ D mz al r iw h1 h2 h3 h4 h5 => he Z H σ al r _ fun v H1 e1 hv => by
  have r1 := r.same e1
  refine ⟨_, r1.ok j _ hj, hi Z H1 σ (al.same e1) r1 _ fun w H2 e2 hw => ?_⟩
  cases hw
  cases hv
  have r2 := r1.same e2
  obtain ⟨_, hmat⟩ := r2.ok i _ h
  have hr := hmat.2.2 k r' row hk hrow
  have inr : r' ∈ OV.adrs p (.mat rs E) := List.mem_cons_of_mem _ (List.mem_of_getElem? hk)
  have off := r2.off r' (own_in h inr)
  have npr : p ≠ r' := fun w => by
    have : (OV.adrs p (.mat rs E)).Nodup := own_adr r2.nd h
    exact (List.nodup_cons.mp this).1 (by rw [w]; exact List.mem_of_getElem? hk)
  refine ⟨r', _, _, m, rfl, rfl, hr, ?_, h1 _ t _ _ q (Aft.chg (Frm.of (e1.trans e2)) h rfl (upd_keep inr) upd_al) (r2.chg h rfl (upd_keep inr) ⟨?_, ?_, fun k2 r3 row2 g1 g2 => ?_⟩) ((iw.same (e1.trans e2)).wr mz off hr)⟩
  · unfold ixN
    rw [if_pos (by omega), if_pos (by rw [List.length_map]; omega)]
    simp
  · rw [upd_ne npr]
    exact hmat.1
  · rw [List.length_set]
    exact hmat.2.1
  · by_cases kk : k = k2
    · subst kk
      rw [hk] at g1
      cases g1
      rw [List.getElem?_set_self (List.getElem?_eq_some_iff.mp hrow).1] at g2
      cases g2
      rw [upd_same, List.map_set]
    · rw [List.getElem?_set_ne kk] at g2
      have := hmat.2.2 k2 r3 row2 g1 g2
      rw [upd_ne]
      · exact this
      · intro w
        subst w
        have nd2 : (OV.adrs p (.mat rs E)).Nodup := own_adr r.nd h
        have nd3 := (List.nodup_cons.mp nd2).2
        exact kk (nodup_at nd3 hk g1)
end
end Fd

/-! things handed back whole, calls that give them; two new lists at once; a list emptied into another -/
namespace Fd
open PySem PySem.Spec PyProof.Rows L2 Fp
section
variable {K : PySem.W.Frag} {lv st : Bool} {W : Wd} {δ δ1 δ2 : List SV} {t : Nat} {a b u : TS} {R S : Out → Nat → Prop} {te ta tb : TE} {ti : TI} {tr : TA} {tt : TT} {d x y : PyData} {ds es xs : List PyData} {i j l n m k : Nat} {P : PyData → Prop} {g : TG} {c : Bool} {p q : Addr}
/-- its own thing is handed back whole -/
theorem sw_retO {x : OV} (h : δ[i]? = some (.o p x)) (q : R (.ro p x) t) : Sw K W δ t (tRet (tVar i)) R := fun Z H σ D mz al r iw h1 h2 h3 h4 h5 => by
  obtain ⟨e, hx⟩ := r.ok i _ h
  refine ⟨_, e, h5 p x t H q Frm.refl iw ⟨?_, fun a ha => .inl (own_in h ha), own_adr r.nd h, fun a ha => r.off a (own_in h ha)⟩⟩
  refine hx.mono (hid_sub fun a o ha z => ⟨ha, ?_⟩) fun a o _ e => e
  obtain ⟨z1, z2⟩ := zo_f.mp z
  rw [Bool.or_eq_false_iff]
  exact ⟨z1, decide_eq_false fun m => z2 (own_in h m)⟩
/-- what comes back is new: rows of numbers; with a pen ahead -/
def spWM (P : List PyData → Nat → Prop) (G : List PyData → List (List Int) → Prop) (K : PySem.W.Frag) : Sp := fun vs H Q _ => ∃ (p c : Addr) (Z : Zs) (t n : Nat) (rest : List V) (ds : List PyData), vs = .ref p :: rest ∧ Z p = true ∧ Z c = true ∧ Al Z H ∧ Dvs K (hid Z H) rest ds ∧
  PenOk H p c t ∧ P ds n ∧ t + n ≤ 1000000000 ∧ ∀ m rs E H', Frm (fun a => decide (a = p)) H H' → PenOk H' p c (t + n) → G ds E → MatAt H' m rs E → (∀ a ∈ m :: rs, H a = none) → (m :: rs).Nodup → Q (.ref m) H'
theorem sw_callWM {pp : Addr} {c : Addr × List NdefX.NTab} {P : List PyData → Nat → Prop} {G : List PyData → List (List Int) → Prop} {RA : List PyData → Prop} (hp : δ[j]? = some (.v (.ref pp))) (h : ExA K lv (some (pp, c)) δ tr m RA) (hP : ∀ ds, RA ds → P ds n) (ht : t + (m + n) ≤ 1000000000) (hi : i < δ.length)
    (q : ∀ ds E p rs, RA ds → G ds E → rs.length = E.length → R (.nx (δ.set i (.o p (.mat rs E)))) (t + (m + n))) : Sw K (some (pp, c)) δ t (tAsg (tCall (spWM P G K) [] E0 (tCons (tVar j) tr)) (gName i)) R := fun Z H σ D mz al r iw h1 h2 h3 h4 h5 => by
  refine ⟨_, r.ok j _ hp, h Z H σ t mz al r iw (by omega) _ fun vs ds H1 f1 i1 rd hv => ?_⟩
  have zp : Z pp = true := mz.m pp mw_p
  have r1 := r.frm f1 mz.m
  have al1 := f1.alz al
  refine ⟨pp, c.1, Zl lv Z δ, t + m, n, vs, ds, by simp, zl_in zp, zl_in (mz.c _ rfl), r1.all al1 lv, hv, i1.1, hP ds rd, by omega, fun p rs E H2 f2' i2 g hm hn nd => ?_⟩
  have f2 : Frm (Mw (some (pp, c))) H1 H2 := ⟨fun b o hb m => f2'.keep b o hb (decide_eq_false (mw_f m).1), f2'.al⟩
  have i2' : Iw (some (pp, c)) (t + (m + n)) H2 := by rw [← Nat.add_assoc]; exact ⟨i2, tabs_pen i1.1 i1.2 fun b o hb n => f2'.keep b o hb (decide_eq_false n)⟩
  refine h1 _ _ _ H2 (q ds E p rs rd g hm.2.1) (Aft.of (f1.trans f2) fun b hb => ?_) ?_ i2'
  · rcases own_set δ i b hb with w | w
    · exact .inr (f1.none (hn b w))
    · exact .inl w
  · -- the heap first as it was, then the new things
    have ra : Rel K Z H2 σ δ := r1.frm f2 mz.m
    have np : ∀ a ∈ OV.adrs p (.mat rs E), a ∉ own δ := fun a ha w => absurd (hn a ha) (r1.alo al1 a (by unfold Zo; rw [decide_eq_true w, Bool.or_true]))
    have kp : ∀ b o, H1 b = some o → Z b = false → H2 b = some o := fun b o hb z => f2'.keep b o hb (by
      cases e : decide (b = pp) with
      | false => rfl
      | true => rw [of_decide_eq_true e, zp] at z; cases z)
    -- more is hidden: the new things
    have r2 : Rel K (fun a => Z a || decide (a ∈ OV.adrs p (.mat rs E))) H2 σ δ := r1.hide kp (fun a ha => by
      rcases Bool.or_eq_true_iff.mp ha with w | w
      · exact .inl w
      · exact .inr (hn a (of_decide_eq_true w))) al1
    have hil : i < δ.length := hi
    refine ⟨by rw [List.length_set, List.length_set]; exact ra.len, fun k s hk => ?_, own_nd (s := .o p (.mat rs E)) nd δ i ra.nd np, fun b hb => ?_⟩
    · by_cases ik : i = k
      · subst ik
        rw [List.getElem?_set_self hil] at hk
        cases hk
        rw [List.getElem?_set_self (by rw [ra.len]; exact hil)]
        exact ⟨rfl, hm⟩
      · rw [List.getElem?_set_ne ik] at hk
        rw [List.getElem?_set_ne ik]
        have zs : Same (hid (Zo (fun a => Z a || decide (a ∈ OV.adrs p (.mat rs E))) δ) H2) (hid (Zo Z (δ.set i (.o p (.mat rs E)))) H2) := hid_sub fun a o ha z => ⟨ha, by
          obtain ⟨z1, z2⟩ := zo_f.mp z
          obtain ⟨z3, z4⟩ := Bool.or_eq_false_iff.mp z1
          refine zo_f.mpr ⟨z3, fun m => ?_⟩
          rcases own_set δ i a m with w | w
          · exact of_decide_eq_false z4 w
          · exact z2 w⟩
        have zb : Same (hid (fun a => Z a || decide (a ∈ OV.adrs p (.mat rs E))) H2) (hid Z H2) := hid_sub fun a o ha z => ⟨ha, (Bool.or_eq_false_iff.mp z).1⟩
        have g2 := r2.ok k s hk
        cases s with
        | u => trivial
        | d d => obtain ⟨v, g3, g4⟩ := g2; exact ⟨v, g3, g4.same zs⟩
        | b d => obtain ⟨v, g3, g4⟩ := g2; exact ⟨v, g3, g4.same zb⟩
        | v v => exact g2
        | o q ov => exact ⟨g2.1, g2.2.mono zs fun _ _ _ e => e⟩
    · rcases own_set δ i b hb with w | w
      · exact al1.off (hn b w)
      · exact ra.off b w
/-- two new lists at once -/
theorem sw_parOO (h : EvO K δ ta ds) (h' : EvO K δ tb es) (hi : i < δ.length) (hj : j < δ.length) (q : ∀ p p', R (.nx ((δ.set i (.o p (.lst ds))).set j (.o p' (.lst es)))) t) : Sw K W δ t (tPar i j (tCons ta (tCons tb tNil))) R := fun Z H σ D mz al r iw h1 h2 h3 h4 h5 =>
  h Z H σ al r _ fun p xs H1 e1 hp hl hx => by
    have one : ∀ {a : Addr} {l : List PyData}, (OV.adrs a (.lst l)) = [a] := rfl
    have sd : ∀ {Z' : Zs} {H0 : Hp} {a : Addr} {l : List PyData} {Hh : Hp}, Same (hid Z' (fun b => if b ∈ OV.adrs a (.lst l) then none else H0 b)) Hh → Same (hid Z' (del H0 a)) Hh := fun {Z' H0 a l Hh} s => Same.trans (hid_sub fun b o hb z => ⟨by
      have nb : b ≠ a := fun w => by rw [w, del_same] at hb; cases hb
      rw [del_ne nb] at hb
      have : b ∉ OV.adrs a (.lst l) := fun m => nb (List.mem_singleton.mp m)
      simp only [this, if_false]
      exact hb, z⟩) s
    have r1 : Rel K Z H1 (σ.set i (some (.ref p))) (δ.set i (.o p (.lst ds))) := r.mine (x := .lst ds) al e1 (fun a ha => by rw [List.mem_singleton.mp ha]; exact hp) (List.nodup_cons.mpr ⟨by simp, List.nodup_nil⟩) (fun Hh s => ⟨xs, hl, hx.same (sd s)⟩) hi
    have hZ : ∀ b, addZ Z p b = true → Z b = true ∨ H b = none := fun b hb => (addZ_t hb).imp id fun w => by rw [w]; exact hp
    have al1 : Al (addZ Z p) H1 := fun b hb => by
      rcases addZ_t hb with w | w
      · exact al.same e1 b w
      · rw [w, hl]; intro z; cases z
    have r1' : Rel K (addZ Z p) H1 σ δ := r.hide (fun b o h _ => e1 b o h) hZ al
    refine h' (addZ Z p) H1 σ al1 r1' _ fun p2 ys H2 e2 hp2 hl2 hy => ?_
    have r2 : Rel K Z H2 (σ.set i (some (.ref p))) (δ.set i (.o p (.lst ds))) := r1.same e2
    have hp2' : ∀ a ∈ OV.adrs p2 (.lst es), H1 a = none := fun a ha => by rw [List.mem_singleton.mp ha]; exact hp2
    have r3 := r1.mine (i := j) (x := .lst es) (p := p2) (al.same e1) e2 hp2' (List.nodup_cons.mpr ⟨by simp, List.nodup_nil⟩) (fun Hh s => ⟨ys, hl2, (hy.same (hid_sub fun b o hb z => ?_)).same (sd s)⟩) (by rw [List.length_set]; exact hj)
    · refine ⟨_, _, rfl, h1 _ t _ H2 (q p p2) (Aft.of (Frm.of (e1.trans e2)) fun b hb => ?_) r3 (iw.same (e1.trans e2))⟩
      rcases own_set _ j b hb with w | w
      · exact .inr ((Frm.of (M := fun _ => false) e1).none (hp2' b w))
      · rcases own_set δ i b w with w | w
        · exact .inr (by rw [List.mem_singleton.mp w]; exact hp)
        · exact .inl w
    · obtain ⟨z1, z2⟩ := zo_f.mp z
      refine ⟨hb, zo_f.mpr ⟨?_, fun m => ?_⟩⟩
      · cases q : Z b with
        | false => rfl
        | true => unfold addZ at z1; rw [q] at z1; cases z1
      · rcases own_set δ i b m with w | w
        · have : b = p := List.mem_singleton.mp w
          unfold addZ at z1
          rw [decide_eq_true this, Bool.or_true] at z1
          cases z1
        · exact z2 w
/-- xs.append(ys.pop(e)), both its own -/
theorem sw_appPop (h : δ[i]? = some (.o p (.lst ds))) (h' : δ[j]? = some (.o q (.lst es))) (ij : i ≠ j) (hx : Ex K lv W δ te n P) (ht : t + n ≤ 1000000000) (hl : ds.length < 100000) (hl2 : es.length < 100000) (hP : ∀ d, P d → ∃ k : Nat, d = .int (k : Nat) ∧ k < es.length)
    (hq : ∀ k d, P (.int (k : Nat)) → es[k]? = some d → R (.nx (((fgt δ).set j (.o q (.lst (es.eraseIdx k)))).set i (.o p (.lst (ds ++ [d]))))) (t + n)) :
    Sw K W δ t (tDrop (tBM K "list" rAppend (tVar i) (tCons (tBM K "list" rPopAt (tVar j) (tCons te tNil)) tNil))) R := fun Z H σ D mz al r iw h1 h2 h3 h4 h5 => by
  obtain ⟨e, vs, g1, g2⟩ := r.ok i _ h
  obtain ⟨e', ws, k1, k2⟩ := r.ok j _ h'
  refine ⟨_, e, .inl ⟨rfl, vs, .inl (.inl g1)⟩, _, e', .inl ⟨rfl, ws, .inl (.inl k1)⟩, hx Z H σ t mz al r iw ht _ fun v d H1 f i1 pd hv => ?_⟩
  obtain ⟨k, rfl, hk⟩ := hP d pd
  cases hv
  have r1 := r.frm f mz.m
  obtain ⟨_, ws', k3, k4⟩ := r1.ok j _ h'
  obtain ⟨w, hw1, hw2⟩ := k4.get (List.getElem?_eq_getElem hk)
  have wl : ws'.length = es.length := k4.len
  have hix : ixN ws'.length (k : Int) = some k := by
    unfold ixN
    rw [if_pos (by omega), if_pos (by omega)]
    simp
  obtain ⟨a1, a2⟩ := lst_chg (W := W) (H := H) (vs := ws'.eraseIdx k) (es := es.eraseIdx k) r1 f h' (k4.erase k)
  have h2' : (fgt δ)[i]? = some (.o p (.lst ds)) := by unfold fgt; rw [List.getElem?_map, h]; rfl
  have h2 : ((fgt δ).set j (.o q (.lst (es.eraseIdx k))))[i]? = some (.o p (.lst ds)) := by rw [List.getElem?_set_ne (fun w => ij w.symm)]; exact h2'
  have i2 := i1.wr (o := .lst (ws'.eraseIdx k)) mz (r.off q (own_mem h')) k3
  refine ⟨q, ws', _, k, w, rfl, rfl, k3, by omega, by omega, (ixN_seq hix).1, hw1, ?_⟩
  obtain ⟨_, vs', g3, g4⟩ := a2.ok i _ h2
  have pq : q ≠ p := fun w => by
    subst w
    have := own_apart r.nd h h' (List.mem_singleton.mpr rfl) (List.mem_singleton.mpr rfl)
    exact ij this
  have hz : Zo Z ((fgt δ).set j (.o q (.lst (es.eraseIdx k)))) = Zo Z δ := by
    unfold Zo
    rw [own_eq (s := .o q (.lst (es.eraseIdx k))) (t := .o q (.lst es)) rfl _ _ (by unfold fgt; rw [List.getElem?_map, h']; rfl), fgt_own]
  have hw3 : Dv K (hid (Zo Z ((fgt δ).set j (.o q (.lst (es.eraseIdx k))))) (upd H1 q (.lst (ws'.eraseIdx k)))) w es[k] := by
    rw [hz]
    refine hw2.same (hid_sub fun b o hb z => ⟨?_, z⟩)
    rw [upd_ne (fun w => (zo_f.mp z).2 (by rw [w]; exact own_mem h'))]
    exact hb
  obtain ⟨b1, b2⟩ := lst_chg (W := W) (H := upd H1 q (.lst (ws'.eraseIdx k))) (vs := vs' ++ [w]) (es := ds ++ [es[k]]) a2 Frm.refl h2 (g4.app (.cons hw3 .nil))
  have ef : (fgt ((fgt δ).set j (.o q (.lst (es.eraseIdx k))))) = (fgt δ).set j (.o q (.lst (es.eraseIdx k))) := by
    refine List.ext_getElem? fun m => ?_
    unfold fgt
    rw [List.getElem?_map]
    by_cases jm : j = m
    · subst jm
      rw [List.getElem?_set_self (by rw [List.length_map]; exact (List.getElem?_eq_some_iff.mp h').1)]
      rfl
    · rw [List.getElem?_set_ne jm, List.getElem?_map, Option.map_map]
      congr 1
      funext s
      cases s <;> rfl
  rw [ef] at b1 b2
  refine ⟨p, vs', w, rfl, rfl, g3, ?_, h1 _ (t + n) _ _ (hq k _ pd (List.getElem?_eq_getElem hk)) (a1.trans b1) b2 (i2.wr mz (r.off p (own_mem h)) g3)⟩
  have big : 100000 ≤ sizeLine := by decide
  rw [g4.len]
  omega
end
end Fd

/-! texts reversed and walked, the place of data in a list -/
namespace Fp
open PySem PySem.Spec PyProof.Rows L2
def rvS (z : Str) : Str := ⟨((Builtin.Str.strSliceIndices none none (-1) z.length).filterMap (z.cps[·]?)).toArray⟩
def tRevS (te : TE) : TE := fun σ H Q => te σ H fun x H1 => ∃ z, x = .str z ∧ (rvS z).length ≤ sizeLine ∧ Q (.str (rvS z)) H1
theorem pe_revS {X : Cx} {e : Expr} {te : TE} {k : Nat} {p1 p2 p3 pos : Pos} (he : PE X e te) : PE X (.Subscript e (.Slice none none (some (.UnaryOp .USub (.Constant (.int 1) k p1) p2)) p3) pos) (tRevS te) := by
  refine ⟨fun pins s σ H Q I h => ?_⟩
  refine Subscript_ (thn (he.run pins s σ H _ I h) fun v s1 ⟨x, H1, I1, r1, q1⟩ => ?_)
  obtain ⟨z, ex, hz, q⟩ := q1
  subst ex
  obtain ⟨t, rfl⟩ := r1
  have hst : PO X (some (.UnaryOp .USub (.Constant (.int 1) k p1) p2)) (tPart (tUn (rU fun i => .int (-i)) (tC (.int 1)))) := po_some (pe_un un_neg pe_int)
  refine wpAny_Slice (thn (po_none.run pins s1 σ H1 (fun o H2 => o = none ∧ H2 = H1) I1 ⟨rfl, rfl⟩) fun vl s2 ⟨l, H2, I2, pl, el, e2⟩ => ?_)
  subst el e2
  refine thn (po_none.run pins s2 σ H2 (fun o H3 => o = none ∧ H3 = H2) I2 ⟨rfl, rfl⟩) fun vu s3 ⟨u, H3, I3, pu, eu, e3⟩ => ?_
  subst eu e3
  refine thn (hst.run pins s3 σ H3 (fun o H4 => o = some (-1) ∧ H4 = H3) I3 ⟨1, rfl, -1, rfl, rfl, rfl⟩) fun vs s4 ⟨o, H4, I4, ps, eo, e4⟩ => ?_
  subst eo e4
  have I5 : Inv X pins σ H4 { s4 with heap := s4.heap.push { cls := .type "slice", data := .fields #[vl, vu, vs] } } := I4.kept (t' := s4.toks) fun b ob q => Heap.get?_push_of_some _ q
  show wpAny (model X.prog X.w) X.A (subscriptTail e (.Slice none none (some (.UnaryOp .USub (.Constant (.int 1) k p1) p2)) p3) (.str z t) (.ref s4.heap.objs.size)) (EP X pins σ Q) X.xe { s4 with heap := s4.heap.push { cls := .type "slice", data := .fields #[vl, vu, vs] } }
  refine tail_any (ops := [.str z t, .ref s4.heap.objs.size]) (typeIs_str _ _ _) F.slot_str_getitem.lookup ?_ (by with_unfolding_all rfl)
  obtain ⟨os, hos, hcs, hds⟩ := Heap.IsSliceOf.new s4.heap vl vu vs
  obtain ⟨l', rfl, el⟩ := IsPart.raw pl
  obtain ⟨u', rfl, eu⟩ := IsPart.raw pu
  obtain ⟨o', rfl, eo⟩ := IsPart.raw ps
  obtain rfl : l' = none := by cases l' with
    | none => rfl
    | some x => simp at el
  obtain rfl : u' = none := by cases u' with
    | none => rfl
    | some x => simp at eu
  obtain ⟨tk, rfl⟩ : ∃ tk, o' = some (-1, tk) := by
    cases o' with
    | none => simp at eo
    | some x =>
      obtain ⟨a, b⟩ := x
      simp at eo
      exact ⟨b, by rw [eo]⟩
  refine wpAny_getItem_str_slice (l := none) (u := none) (st := some (-1, tk)) ⟨os, hos, hcs, hds⟩ rfl ?_
  show Made.post (if ((-1 : Int) == 1 && _) = true then _ else Made.str (rvS z)) (EP X pins σ Q) _
  rw [if_neg (by simp)]
  exact ⟨hz, .str (rvS z), H4, I5.tok _, ⟨_, rfl⟩, q⟩
end Fp
namespace Fd
open PySem PySem.Spec PyProof.Rows L2 Fp
section
variable {K : PySem.W.Frag} {lv st : Bool} {W : Wd} {δ : List SV} {t : Nat} {te ta tb to : TE} {tr : TA} {d x : PyData} {ds : List PyData} {i j n m : Nat}
theorem ev_revS {z : Str} (h : Ev K lv δ te (.str z)) (hl : (rvS z).length ≤ sizeLine) : Ev K lv δ (tRevS te) (.str (rvS z)) := fun Z H σ al r Q q => h Z H σ al r _ fun v H1 e hv => by
  cases hv
  exact ⟨z, rfl, hl, q _ H1 e (.str _)⟩
/-- the signs of a text -/
def sgn (z : Str) : List Str := z.cps.toList.map fun c => ⟨#[c]⟩
theorem evi_str {z : Str} (h : Ev K lv δ te (.str z)) : EvI K lv st δ (iStr te) ((sgn z).map .str) := fun Z H σ al r R q => h Z H σ al r _ fun v H1 e hv => by
  cases hv
  refine ⟨z, rfl, q _ H1 e ⟨fun i H' s hi => ?_, fun i H' x H'' d s hi y => ?_, fun i H' s hi => ?_⟩⟩
  · simp [sgn] at hi
    exact hi
  · obtain ⟨rfl, c, hc, rfl⟩ := y
    refine ⟨Same.refl _, fun Z' hz al' => ?_⟩
    unfold sgn at hi
    rw [List.getElem?_map, List.getElem?_map, Array.getElem?_toList, hc] at hi
    cases hi
    exact .str _
  · simp [sgn] at hi
    exact hi
theorem ev_indexD {y : PyData} (h : Ev K lv δ to (.list ds)) (hx : Ev K lv δ te x) (p1 : PyData.hasDictAll ds = false) (p2 : x.hasDict = false) (s1 : SeqAt.shaped (.list ds) = true) (s2 : SeqAt.shaped x = true) (hj : ds[j]? = some y) (he : PyData.eqv y x = true) (hno : ∀ (m : Nat) (z : PyData), m < j → ds[m]? = some z → PyData.eqv z x = false) :
    Ev K lv δ (tBM K "list" (rIndexD K) to (tCons te tNil)) (.int (j : Nat)) := fun Z H σ al r Q q => h Z H σ al r _ fun v H1 e1 hv => by
  obtain ⟨a, vs, rfl, ha, hds⟩ := hv.list
  refine ⟨.inl ⟨rfl, vs, .inl (.inl (of_hid ha).1)⟩, hx Z H1 σ (al.same e1) (r.same e1) _ fun w H2 e2 hw => ?_⟩
  refine ⟨a, w, x, ds, j, y, rfl, rfl, hid_dp (.lst (same_hid e2 _ _ ha) (hds.same (same_hid e2))) p1, hid_dp hw p2, s1, s2, hj, he, hno, q _ H2 (e1.trans e2) (.int _)⟩
end
end Fd

/-! a pair: data and a new list; texts -/
namespace Fd
open PySem PySem.Spec PyProof.Rows L2 Fp
section
variable {K : PySem.W.Frag} {lv st : Bool} {W : Wd} {δ δ1 δ2 : List SV} {t : Nat} {a b u : TS} {R S : Out → Nat → Prop} {te ta tb : TE} {ti : TI} {tr : TA} {tt : TT} {d x y : PyData} {ds es xs : List PyData} {i j l n m k : Nat} {P : PyData → Prop} {g : TG} {c : Bool} {p q : Addr}
theorem sw_tupDO (h : Ev K true δ ta x) (h' : EvO K δ tb es) (hj : j < δ.length) (q : ∀ p, R (.nx ((δ.set i (.d x)).set j (.o p (.lst es)))) t) :
    Sw K W δ t (tAsg (tTup (tCons ta (tCons tb tNil))) (gTup K 2 (gCons (gName i) (gCons (gName j) gNil)))) R := fun Z H σ D mz al r iw h1 h2 h3 h4 h5 =>
  h Z H σ al r _ fun v H1 e1 hv => h' Z H1 σ (al.same e1) (r.same e1) _ fun p xs H2 e2 hp hl hx => by
    refine ⟨by show 2 ≤ sizeLine; decide, fun tp htp => ⟨tp, _, rfl, .inl (.inl upd_same), rfl, _, _, rfl, _, _, rfl, rfl, ?_⟩⟩
    have e3 : Same H1 (upd H2 tp (.tup [v, .ref p])) := e2.trans (same_new htp)
    have r1 : Rel K Z H1 (σ.set i (some v)) (δ.set i (.d x)) := (r.same e1).putD hv
    have pt : p ≠ tp := fun w => by rw [w, htp] at hl; cases hl
    have hp' : ∀ a ∈ OV.adrs p (.lst es), H1 a = none := fun a ha => by rw [List.mem_singleton.mp ha]; exact hp
    refine h1 _ t _ _ (q p) (Aft.of (Frm.of (e1.trans e3)) fun b hb => ?_) (r1.mine (x := .lst es) (al.same e1) e3 hp' (List.nodup_cons.mpr ⟨by simp, List.nodup_nil⟩) (fun Hh s => ⟨xs, by rw [upd_ne pt]; exact hl, hx.same (Same.trans (hid_sub fun b o hb z => ⟨?_, ?_⟩) s)⟩) (by rw [List.length_set]; exact hj)) (iw.same (e1.trans e3))
    · rcases own_set _ j b hb with w | w
      · exact .inr ((Frm.of (M := fun _ => false) e1).none (hp' b w))
      · exact .inl (own_put rfl b w)
    · have nb : b ≠ p := fun w => by rw [w, del_same] at hb; cases hb
      rw [del_ne nb] at hb
      have : b ∉ OV.adrs p (.lst es) := fun m => nb (List.mem_singleton.mp m)
      simp only [this, if_false]
      exact same_new htp b o hb
    · obtain ⟨z1, z2⟩ := zo_f.mp z
      exact zo_f.mpr ⟨z1, fun m => z2 (own_put rfl b m)⟩
theorem r2_addS {s t : Str} (h : s.length + t.length ≤ sizeLine) : R2d K (fun x y H Q => ∃ i j, x = V.str i ∧ y = .str j ∧ i.length + j.length ≤ sizeLine ∧ Q (.str (i ++ j)) H) (.str s) (.str t) (.str (s ++ t)) := fun Z H v w al hv hw Q q => by
  cases hv
  cases hw
  exact ⟨s, t, rfl, rfl, h, q _ H (Same.refl _) (.str _)⟩
/-- a cut -/
theorem sw_step {t1 : Nat} (h : Sw K W δ t a (fun o t' => o = .nx δ1 ∧ t' = t1)) (h2 : Sw K W δ1 t1 b R) : Sw K W δ t (tSeq a b) R := sw_seq (h.imp fun o t' e => by obtain ⟨rfl, rfl⟩ := e; exact h2)
theorem int_list {K : PySem.W.Frag} {H : Hp} : ∀ {vs : List V} {zs : List Int}, Dvs K H vs (zs.map .int) → vs = zs.map V.int
  | _, [], h => by cases h; rfl
  | _, z :: zs, h => by
    cases h with
    | cons a b =>
      cases a
      rw [int_list b]
      rfl
theorem ra_minL {zs : List Int} {m : Int} (hm : m ∈ zs) (hl : ∀ y ∈ zs, m ≤ y) : RAd K (rMin K) [.list (zs.map .int)] (.int m) := fun Z H vs al h Q q => by
  obtain ⟨a, ws, rfl, ha, hw⟩ := one_list h
  obtain rfl := int_list hw
  refine ⟨a, zs, rfl, .inl (.inl (of_hid ha).1), List.length_pos_of_mem hm, fun y hy hl2 => ?_⟩
  have : y = m := by have := hl y hy; have := hl2 m hm; omega
  subst this
  exact q _ H (Same.refl _) (.int _)
theorem evb_tru {ds : List PyData} (h : Ev K lv δ te (.list ds)) : EvB K δ (Fp.tTru K te) (!ds.isEmpty) := fun Z H σ al r Q q => h Z H σ al r _ fun v H1 e hv => by
  obtain ⟨a, vs, rfl, ha, hw⟩ := hv.list
  refine ⟨!vs.isEmpty, .inl ⟨vs, .inl (.inl (of_hid ha).1), rfl⟩, ?_⟩
  have : vs.isEmpty = ds.isEmpty := by cases hw <;> rfl
  rw [this]
  exact q H1 e
theorem eqv_ints : ∀ a b : List Int, PyData.eqv (.list (a.map .int)) (.list (b.map .int)) = decide (a = b) := fun a b => by
  show PyData.eqvAll (a.map PyData.int) (b.map PyData.int) = _
  induction a generalizing b with
  | nil => cases b <;> rfl
  | cons x a ih =>
    cases b with
    | nil => rfl
    | cons y b =>
      show ((x == y) && PyData.eqvAll (a.map PyData.int) (b.map PyData.int)) = _
      rw [ih b]
      by_cases h : x = y
      · subst h
        simp
      · simp [h]
theorem eqok_ints (a b : List Int) : EqOk (.list (a.map .int)) (.list (b.map .int)) := by
  have h : ∀ l : List Int, PyData.hasDictAll (l.map .int) = false ∧ PyData.canLayAll0 (l.map .int) = true ∧ PyData.depthAll (l.map .int) ≤ 1 := fun l => by
    induction l with
    | nil => exact ⟨rfl, rfl, Nat.zero_le _⟩
    | cons x r ih => exact ⟨by show (false || _) = _; rw [ih.1]; rfl, by show (true && _) = _; rw [ih.2.1]; rfl, by show max _ _ ≤ 1; exact Nat.max_le.mpr ⟨Nat.zero_le _, ih.2.2⟩⟩
  refine ⟨(h a).1, (h b).1, (h a).2.1, (h b).2.1, Nat.le_trans (Nat.min_le_left _ _) ?_⟩
  show PyData.depthAll _ + 1 ≤ 64
  have := (h a).2.2
  omega
theorem sw_aug {g : Int → Int → Int} {y z : Int} (h : δ[i]? = some (.d (.int y))) (he : Ev K true δ te (.int z)) (q : R (.nx (δ.set i (.d (.int (g y z))))) t) : Sw K W δ t (tAug i te (ipI g)) R := fun Z H σ D mz al r iw h1 h2 h3 h4 h5 => by
  obtain ⟨v, e, hv⟩ := r.ok i _ h
  refine ⟨v, e, he Z H σ al r _ fun w H1 e1 hw => ?_⟩
  cases hv
  cases hw
  exact ⟨_, _, rfl, rfl, h1 _ t _ H1 q (Aft.of (Frm.of e1) fun p hp => .inl (own_put rfl p hp)) ((r.same e1).putD (.int _)) (iw.same e1)⟩
/-- a comprehension over one name, nothing left out -/
theorem ev_map {α : Type} {dat fv : α → PyData} {as : List α} (hi : EvI K lv true δ ti (as.map dat)) (hu : δ[j]? = some .u) (hn : as.length < 100000) (hs : ∀ a, a ∈ as → Ev K lv (δ.set j (sl lv (dat a))) te (fv a)) : Ev K lv δ (tLc ti (gName j) tYes te [j]) (.list (as.map fv)) := by
  have := ev_lc (st := true) (g := gName j) (vs := [j]) (tt := tYes) (fb := fun _ => true) hi (by simp [List.getD_eq_getElem?_getD, hu, SV.isU]) hn (fun a ha => ⟨δ.set j (sl lv (dat a)), own_eq sl_adr δ j hu, tg_name (by simp), evb_yes, fun _ => hs a ha⟩)
  rwa [List.filter_eq_self.mpr (by simp)] at this
theorem ex_map {α : Type} {dat : α → PyData} {as : List α} {RI : α → PyData → Prop} (hi : EvI K lv true δ ti (as.map dat)) (hu : δ[j]? = some .u) (hn : as.length < 100000) (hs : ∀ a, a ∈ as → Ex K lv W (δ.set j (sl lv (dat a))) te n (RI a)) : Ex K lv W δ (tLc ti (gName j) tYes te [j]) (n * as.length) (fun d => ∃ ds, d = .list ds ∧ ds.length = as.length ∧ ∀ (j : Nat) (a : α) (e : PyData), as[j]? = some a → ds[j]? = some e → RI a e) :=
  ex_lc hi (by simp [List.getD_eq_getElem?_getD, hu, SV.isU]) hn fun a ha => ⟨δ.set j (sl lv (dat a)), own_eq sl_adr δ j hu, tg_name (by simp), hs a ha⟩
/-- a test with draws -/
theorem sw_ifX (h : Ex K lv W δ te n P) (ht : t + n ≤ 1000000000) (hP : ∀ d, P d → ∃ c : Bool, d = .bool c ∧ (c = true → Sw K W δ (t + n) a R) ∧ (c = false → Sw K W δ (t + n) b R)) : Sw K W δ t (tIfS (tTest te) a b) R := fun Z H σ D mz al r iw q1 q2 q3 q4 q5 =>
  h Z H σ t mz al r iw ht _ fun v d H1 f i1 pd hv => by
    obtain ⟨c, rfl, h1, h2⟩ := hP d pd
    refine ⟨c, hv.bool, ?_⟩
    cases c with
    | true => exact (h1 rfl).go (s := 0) mz al r i1 f q1 q2 q3 q4 q5
    | false => exact (h2 rfl).go (s := 0) mz al r i1 f q1 q2 q3 q4 q5
/-- a row that is drawn -/
theorem sw_rowX {E : List (List Int)} {rs : List Addr} (h : δ[i]? = some (.o p (.mat rs E))) (he : Ex K lv W δ te n P) (ht : t + n ≤ 1000000000) (hP : ∀ d, P d → ∃ k : Nat, d = .int (k : Nat) ∧ k < rs.length) (q : ∀ (k : Nat) (r' : Addr), rs[k]? = some r' → R (.nx (δ.set j (.v (.ref r')))) (t + n)) : Sw K W δ t (tAsg (tOp (rIxL K) (tVar i) te) (gName j)) R := fun Z H σ D mz al r iw h1 h2 h3 h4 h5 => by
  refine ⟨_, (r.ok i _ h).1, he Z H σ t mz al r iw ht _ fun w d H1 f i1 pd hw => ?_⟩
  obtain ⟨k, rfl, hk⟩ := hP d pd
  cases hw
  have hk : rs[k]? = some rs[k] := List.getElem?_eq_getElem hk
  obtain ⟨_, hm⟩ := (r.frm f mz.m).ok i _ h
  refine ⟨_, _, _, .ref rs[k], rfl, rfl, .inl (.inl hm.1), atI_nat (by rw [List.getElem?_map, hk]; rfl), ?_⟩
  exact h1 _ (t + n) _ H1 (q k _ hk) (Aft.of f fun p hp => .inl (own_put rfl p hp)) ((r.frm f mz.m).put rfl rfl) i1
theorem sw_rowsetX {E : List (List Int)} {rs : List Addr} {r' : Addr} {row : List Int} {P2 : PyData → Prop} (h : δ[i]? = some (.o p (.mat rs E))) (hj : δ[j]? = some (.v (.ref r'))) (hk : rs[k]? = some r') (hrow : E[k]? = some row) (he : Ex K lv W δ te n P) (hi : Ex K lv W δ ta l P2) (ht : t + (n + l) ≤ 1000000000) (hP : ∀ d, P d → ∃ z : Int, d = .int z) (hm : ∀ d, P2 d → ∃ m : Nat, d = .int (m : Nat) ∧ m < row.length)
    (q : ∀ z m, P (.int z) → P2 (.int (m : Nat)) → R (.nx ((fgt δ).set i (.o p (.mat rs (E.set k (row.set m z)))))) (t + (n + l))) : Sw K W δ t (tAsg te (gSub (tVar j) ta rSetL)) R := fun Z H σ D mz al r iw h1 h2 h3 h4 h5 => he Z H σ t mz al r iw (by omega) _ fun v d H1 f1 i1 pd hv => by
  have r1 := r.frm f1 mz.m
  refine ⟨_, r1.ok j _ hj, hi Z H1 σ (t + n) mz (f1.alz al) r1 i1 (by omega) _ fun w d2 H2 f2 i2 pd2 hw => ?_⟩
  obtain ⟨z, rfl⟩ := hP d pd
  obtain ⟨m, rfl, hm⟩ := hm d2 pd2
  cases hw
  cases hv
  have r2 := r1.frm f2 mz.m
  obtain ⟨_, hmat⟩ := r2.ok i _ h
  have hr := hmat.2.2 k r' row hk hrow
  have inr : r' ∈ OV.adrs p (.mat rs E) := List.mem_cons_of_mem _ (List.mem_of_getElem? hk)
  have off := r2.off r' (own_in h inr)
  have npr : p ≠ r' := fun w => by
    have : (OV.adrs p (.mat rs E)).Nodup := own_adr r2.nd h
    exact (List.nodup_cons.mp this).1 (by rw [w]; exact List.mem_of_getElem? hk)
  have i2' : Iw W (t + (n + l)) H2 := by rw [← Nat.add_assoc]; exact i2
  refine ⟨r', _, _, m, rfl, rfl, hr, ?_, h1 _ (t + (n + l)) _ _ (q z m pd pd2) (Aft.chg (f1.trans f2) h rfl (upd_keep inr) upd_al) (r2.chg h rfl (upd_keep inr) ⟨?_, ?_, fun k2 r3 row2 g1 g2 => ?_⟩) (i2'.wr mz off hr)⟩
  · unfold ixN
    rw [if_pos (by omega), if_pos (by rw [List.length_map]; omega)]
    simp
  · rw [upd_ne npr]
    exact hmat.1
  · rw [List.length_set]
    exact hmat.2.1
  · by_cases kk : k = k2
    · subst kk
      rw [hk] at g1
      cases g1
      rw [List.getElem?_set_self (List.getElem?_eq_some_iff.mp hrow).1] at g2
      cases g2
      rw [upd_same, List.map_set]
    · rw [List.getElem?_set_ne kk] at g2
      have := hmat.2.2 k2 r3 row2 g1 g2
      rw [upd_ne]
      · exact this
      · intro w
        subst w
        have nd2 : (OV.adrs p (.mat rs E)).Nodup := own_adr r.nd h
        have nd3 := (List.nodup_cons.mp nd2).2
        exact kk (nodup_at nd3 hk g1)
end
/-- how a body ends that hands back a thing of its own -/
def FinM (P : OV → Nat → Prop) : Out → Nat → Prop
  | .ro _ x, t => P x t
  | _, _ => False
section
variable {P : Program} {w : World} {K : PySem.W.Frag} {mg : Str → Option Value} {base : Heap}
/-- a def with a pen ahead that hands back new rows of numbers -/
theorem fun_WM {x qual : Str} {st : Stmt} {f : Addr} {fd : FuncData} {N ps : List Str} {pn : Str} {k : Nat} (F : Fun K x qual st f fd) (S : FnScope N (pn :: ps) (defScope st)) {P' : List PyData → Nat → Prop} {G : List PyData → List (List Int) → Prop} (hN : ps.length + 1 ≤ N.length) (hl : ∀ ds n, P' ds n → ds.length = ps.length)
    (hbody : ∀ (cdv : Value) (A : Around) (outer : List Env) (s : Shared) (H : Hp) (E : XK) (p : Addr) (c : Addr × List NdefX.NTab) (ds : List PyData) (t n : Nat), Room k (A.deeper (envOfC qual (defScope st) s.heap.objs.size f cdv)) → P' ds n → t + n ≤ 1000000000 →
      ∃ ts, PSs (cxOf CX0 P w K mg base N qual (defScope st) f cdv A outer s H E).nox (defBody st) ts ∧ Sw K (some (p, c)) (.v (.ref p) :: (ds.map SV.d ++ List.replicate (N.length - (ps.length + 1)) .u)) t ts (FinM fun x t' => (∃ rs E, x = .mat rs E ∧ G ds E) ∧ t' ≤ t + n)) : FnOk P w K mg base CX0 (k + 1) f fd (pn :: ps) (spWM P' G K) := by
  refine F.ok S (fun vs H Q E h => ?_) (fun cdv A outer s H vs Q E hr h => ?_)
  · obtain ⟨p, c, Z, t, n, rest, ds, rfl, _, _, _, hv, _, hp, _⟩ := h
    rw [List.length_cons, List.length_cons, hv.len, hl ds n hp]
  · obtain ⟨p, c, Z, t, n, rest, ds, rfl, zp, zc, al, hv, pen, hp, ht, q⟩ := h
    obtain ⟨ts, hts, hw⟩ := hbody cdv A outer s H E p (c, []) ds t n hr hp ht
    have hd : Hd (some (p, c, [])) Z := ⟨fun a h => hd_nil zp h, fun pc e => by cases e; exact zc⟩
    have hown : own (SV.v (.ref p) :: (ds.map SV.d ++ List.replicate (N.length - (ps.length + 1)) .u)) = [] := own_d ds _
    have re : Rel K Z H (start N (.ref p :: rest)) (.v (.ref p) :: (ds.map SV.d ++ List.replicate (N.length - (ps.length + 1)) .u)) := by
      cases N with
      | nil => simp at hN
      | cons n0 N' =>
        have r0 := rel_start (N := N') (ps := ps) hv (hl ds n hp) (by simpa using hN)
        have e1 : start (n0 :: N') (.ref p :: rest) = some (.ref p) :: start N' rest := by
          unfold L2.start
          simp
        have e2 : (n0 :: N').length - (ps.length + 1) = N'.length - ps.length := by simp
        rw [e1, e2]
        have hz : Zo Z (SV.v (.ref p) :: (ds.map SV.d ++ List.replicate (N'.length - ps.length) .u)) = Zo Z (ds.map SV.d ++ List.replicate (N'.length - ps.length) .u) := rfl
        refine ⟨by rw [List.length_cons, List.length_cons, r0.len], fun i s hi => ?_, r0.nd, r0.off⟩
        cases i with
        | zero => cases hi; rfl
        | succ i => exact svOk_eq hz.symm (r0.ok i s hi)
    have iw : Iw (some (p, c, [])) t H := ⟨pen, fun x hx => nomatch hx⟩
    have frm : ∀ {H' : Hp}, Frm (Mo (some (p, c, [])) (.v (.ref p) :: (ds.map SV.d ++ List.replicate (N.length - (ps.length + 1)) .u))) H H' → Frm (fun a => decide (a = p)) H H' := fun {H'} f => ⟨fun b o hb m => f.keep b o hb (mo_f.mpr ⟨mw_nil m, by rw [hown]; simp⟩), f.al⟩
    refine ⟨ts, hts, hw Z H _ _ hd al re iw (fun δ' t' σ' H' e f r i => e.elim) (fun d' t' v H' e f i hv' => e.elim) (fun δ' t' σ' H' e => e.elim) (fun δ' t' σ' H' e => e.elim) (fun m x t' H' e f i nw => ?_)⟩
    obtain ⟨⟨rs, E', rfl, g⟩, e2⟩ := e
    exact q m rs E' H' (frm f) (i.mono e2).1 g nw.ok (fun a ha => (nw.new a ha).resolve_left (by rw [hown]; simp)) nw.nd
end
theorem cr_minL {X : Cx} {K : PySem.W.Frag} (hc : X.calm = true) (hK : X.K = K := by rfl) : CallR X (.builtin "min") (rMin K) := hK ▸ cr_min hc
theorem cr_maxL {X : Cx} {K : PySem.W.Frag} (hc : X.calm = true) (hK : X.K = K := by rfl) : CallR X (.builtin "max") (rMax K) := hK ▸ cr_max hc
theorem mt_indexDK {X : Cx} {K : PySem.W.Frag} (hu : X.A.units + 65 < cLine) (hK : X.K = K := by rfl) : MtR X "list.index" (rIndexD K) := hK ▸ mt_indexD hu
end Fd

/-! tables as rows of numbers -/
namespace Fd
open PySem PySem.Spec PyProof.Rows L2 Fp
structure Tbl (n : Nat) (E : List (List Int)) : Prop where
  len : E.length = n
  row : ∀ r ∈ E, r.length = n
  val : ∀ r ∈ E, ∀ z ∈ r, OkV n z
def rowOf (E : List (List Int)) (a : Int) : List Int := E.getD a.toNat []
def cel (E : List (List Int)) (a b : Int) : Int := (rowOf E a).getD b.toNat 0
theorem okv_nat {n : Nat} {a : Int} (h : OkV n a) : a.toNat < n ∧ ((a.toNat : Nat) : Int) = a := by
  unfold OkV at h
  omega
theorem Tbl.at {n : Nat} {E : List (List Int)} (t : Tbl n E) {a : Int} (h : OkV n a) : E[a.toNat]? = some (rowOf E a) ∧ rowOf E a ∈ E := by
  have h1 := (okv_nat h).1
  have h2 : a.toNat < E.length := by rw [t.len]; exact h1
  unfold rowOf
  rw [List.getD_eq_getElem?_getD, List.getElem?_eq_getElem h2]
  exact ⟨rfl, List.getElem_mem h2⟩
theorem Tbl.len_row {n : Nat} {E : List (List Int)} (t : Tbl n E) {a : Int} (h : OkV n a) : (rowOf E a).length = n := t.row _ (t.at h).2
theorem Tbl.cel_at {n : Nat} {E : List (List Int)} (t : Tbl n E) {a b : Int} (h : OkV n a) (h2 : OkV n b) : (rowOf E a)[b.toNat]? = some (cel E a b) := by
  have h1 := (okv_nat h2).1
  have h3 : b.toNat < (rowOf E a).length := by rw [t.len_row h]; exact h1
  unfold cel
  rw [List.getD_eq_getElem?_getD, List.getElem?_eq_getElem h3]
  rfl
theorem Tbl.cel_ok {n : Nat} {E : List (List Int)} (t : Tbl n E) {a b : Int} (h : OkV n a) (h2 : OkV n b) : OkV n (cel E a b) := t.val _ (t.at h).2 _ (List.mem_of_getElem? (t.cel_at h h2))
section
variable {K : PySem.W.Frag} {lv : Bool} {δ : List SV} {tr ta tb : TE} {n : Nat} {E : List (List Int)} {a b : Int}
theorem mD_at (t : Tbl n E) (h : OkV n a) : (E.map fun r => PyData.list (r.map PyData.int))[a.toNat]? = some (.list ((rowOf E a).map .int)) := by
  rw [List.getElem?_map, (t.at h).1]
  rfl
theorem ev_row (hr : Ev K lv δ tr (mD E)) (t : Tbl n E) (ha : Ev K lv δ ta (.int a)) (h : OkV n a) : Ev K lv δ (tOp (rIxL K) tr ta) (.list ((rowOf E a).map .int)) := ev_op hr ha (r2_ixI h.1 (mD_at t h))
theorem ev_at (t : Tbl n E) (hr : Ev K lv δ tr (.list ((rowOf E a).map .int))) (h : OkV n a) (hb : Ev K lv δ tb (.int b)) (h2 : OkV n b) : Ev K lv δ (tOp (rIxL K) tr tb) (.int (cel E a b)) := ev_op hr hb (r2_ixI h2.1 (by rw [List.getElem?_map, t.cel_at h h2]; rfl))
theorem ev_cell (hr : Ev K lv δ tr (mD E)) (t : Tbl n E) (ha : Ev K lv δ ta (.int a)) (h : OkV n a) (hb : Ev K lv δ tb (.int b)) (h2 : OkV n b) : Ev K lv δ (tOp (rIxL K) (tOp (rIxL K) tr ta) tb) (.int (cel E a b)) := ev_at t (ev_row hr t ha h) h hb h2
end
/-! ### the laws' own look at the rules -/
def fromLeft (E : List (List Int)) : List Int → Int
  | [] => 0
  | v :: r => r.foldl (fun f x => cel E f x) v
theorem foldl_ok {n : Nat} {E : List (List Int)} (t : Tbl n E) : ∀ {r : List Int} {v : Int}, OkV n v → (∀ x ∈ r, OkV n x) → OkV n (r.foldl (fun f x => cel E f x) v)
  | [], v, h, _ => h
  | x :: r, v, h, hr => by
    rw [List.foldl_cons]
    exact foldl_ok t (t.cel_ok h (hr x List.mem_cons_self)) fun y hy => hr y (List.mem_cons_of_mem _ hy)
theorem fromLeft_ok {n : Nat} {E : List (List Int)} (t : Tbl n E) {l : List Int} (h0 : l ≠ []) (h : ∀ x ∈ l, OkV n x) : OkV n (fromLeft E l) := by
  cases l with
  | nil => exact absurd rfl h0
  | cons v r => exact foldl_ok t (h v List.mem_cons_self) fun y hy => h y (List.mem_cons_of_mem _ hy)
/-- both sides of the short equations -/
def sides (rule : Str) (x y z : Int) : List (List Int × List Int) :=
  if rule = "order" then [([x, y], [y, x])]
  else if rule = "keep" ∨ rule = "take" then [([x, y], [if rule = "keep" then x else y])]
  else if rule = "vanish" then [([x, x, y], [y]), ([y, x, x], [y])]
  else if rule = "grouping" then []
  else [([x, x], [x]), if rule = "middle" then ([x, y, x, z, x], [x, y, z, x]) else if rule = "first" then ([x, y, x], [x, y]) else if rule = "last" then ([x, y, x], [y, x]) else ([x, y, z], [x, z])]
theorem sides_ok {n : Nat} {rule : Str} {x y z : Int} (hx : OkV n x) (hy : OkV n y) (hz : OkV n z) : ∀ p ∈ sides rule x y z, (p.1 ≠ [] ∧ p.1.length ≤ 9 ∧ ∀ v ∈ p.1, OkV n v) ∧ (p.2 ≠ [] ∧ p.2.length ≤ 9 ∧ ∀ v ∈ p.2, OkV n v) := by
  intro p hp
  unfold sides at hp
  have all : ∀ l : List Int, (∀ v ∈ l, v = x ∨ v = y ∨ v = z) → ∀ v ∈ l, OkV n v := fun l h v hv => by
    rcases h v hv with rfl | rfl | rfl <;> assumption
  split at hp
  · simp only [List.mem_singleton] at hp; subst hp; simp [hx, hy]
  · split at hp
    · simp only [List.mem_singleton] at hp; subst hp; simp [hx, hy]; split <;> assumption
    · split at hp
      · simp only [List.mem_cons, List.not_mem_nil, or_false] at hp; rcases hp with rfl | rfl <;> simp [hx, hy]
      · split at hp
        · simp at hp
        · simp only [List.mem_cons, List.not_mem_nil, or_false] at hp
          rcases hp with rfl | rfl
          · simp [hx]
          · split
            · simp [hx, hy, hz]
            · split
              · simp [hx, hy]
              · split <;> simp [hx, hy, hz]
def tripleB (E : List (List Int)) (rule : Str) (x y z : Int) : Bool :=
  (rule = "order" || rule = "keep" || rule = "take" || decide (cel E (cel E x y) z = cel E x (cel E y z))) && (sides rule x y z).all fun p => decide (fromLeft E p.1 = fromLeft E p.2)
/-- 0 .. n - 1 -/
def span (n : Nat) : List Int := (List.range n).map fun (i : Nat) => (i : Int)
theorem mem_span {n : Nat} {z : Int} : z ∈ span n ↔ OkV n z := by
  unfold span OkV
  rw [List.mem_map]
  constructor
  · rintro ⟨i, hi, rfl⟩
    have := List.mem_range.mp hi
    omega
  · rintro ⟨h1, h2⟩
    exact ⟨z.toNat, List.mem_range.mpr (by omega), by omega⟩
theorem rngD_span (n : Nat) : rngD 0 n = (span n).map PyData.int := by
  unfold rngD span
  rw [List.map_map]
  refine List.map_congr_left fun i _ => ?_
  show PyData.int (0 + (i : Int)) = .int (i : Int)
  rw [Int.zero_add]
theorem span_len (n : Nat) : (span n).length = n := by
  unfold span
  rw [List.length_map, List.length_range]
def trips (n : Nat) : List (Int × Int × Int) := (span n).flatMap fun x => (span n).flatMap fun y => (span n).map fun z => (x, y, z)
/-- the first three values that break the rule -/
def firstBreak (E : List (List Int)) (rule : Str) : Option (Int × Int × Int) := (trips E.length).find? fun p => !tripleB E rule p.1 p.2.1 p.2.2
def brD : Option (Int × Int × Int) → PyData
  | none => .none
  | some (x, y, z) => .tuple [.int x, .int y, .int z]
def R9s : List Str := ["grouping", "order", "middle", "first", "last", "ends", "keep", "take", "vanish"]
def rulesKept (E : List (List Int)) : List Str := R9s.filter fun r => (firstBreak E r).isNone
end Fd

/-! where a rule breaks first, by the two sides as rows over z -/
namespace Fd
open PySem PySem.Spec PyProof.Rows L2 Fp
abbrev Sd := List Int × List Int
/-- how far two lists are alike -/
def funl : List Int → List Int → Nat
  | a :: l, b :: r => if a = b then funl l r + 1 else 0
  | _, _ => 0
def groupS (E : List (List Int)) (x y : Int) : Sd := (rowOf E (cel E x y), (rowOf E y).map fun w => cel E x w)
def middleS (E : List (List Int)) (x y : Int) : Sd := ((rowOf E (cel E (cel E x y) x)).map fun w => cel E w x, (rowOf E (cel E x y)).map fun w => cel E w x)
def shortS (E : List (List Int)) (rule : Str) (x y : Int) : List Sd :=
  if rule = "order" then [([cel E x y], [cel E y x])]
  else if rule = "first" then [([cel E (cel E x y) x], [cel E x y])]
  else if rule = "last" then [([cel E (cel E x y) x], [cel E y x])]
  else if rule = "keep" then [([cel E x y], [x])]
  else if rule = "take" then [([cel E x y], [y])]
  else if rule = "vanish" then [([cel E (cel E x x) y], [y]), ([cel E (cel E y x) x], [y])]
  else []
def R3s : List Str := ["order", "keep", "take"]
def R4s : List Str := ["middle", "first", "last", "ends"]
def allS (E : List (List Int)) (rule : Str) (x y : Int) : List Sd :=
  shortS E rule x y ++ (if rule ∈ R3s then [] else [groupS E x y]) ++ (if rule ∈ R4s then [([cel E x x], [x])] else []) ++ (if rule = "middle" then [middleS E x y] else []) ++ (if rule = "ends" then [(rowOf E (cel E x y), rowOf E x)] else [])
def plc (l : List Sd) : List Nat := (l.filter fun p => !decide (p.1 = p.2)).map fun p => funl p.1 p.2
def lst : List Nat → Option Nat
  | [] => none
  | a :: r => some (r.foldl min a)
def breakZ (E : List (List Int)) (rule : Str) (x y : Int) : Option Nat := lst (plc (allS E rule x y))
/-- a pair of rows, and where it is unlike -/
structure POk (n : Nat) (p : Sd) (u : Int → Bool) : Prop where
  eq : p.1 = p.2 → ∀ z, OkV n z → u z = false
  lt : p.1 ≠ p.2 → funl p.1 p.2 < n
  at_ : p.1 ≠ p.2 → u (funl p.1 p.2 : Nat) = true
  no : p.1 ≠ p.2 → ∀ z : Int, 0 ≤ z → z < (funl p.1 p.2 : Nat) → u z = false
theorem pok_one {n : Nat} {a b : Int} (hn : 1 ≤ n) : POk n ([a], [b]) (fun _ => !decide (a = b)) := by
  refine ⟨fun h z _ => ?_, fun h => ?_, fun h => ?_, fun h z h0 h1 => ?_⟩
  · have : a = b := (List.cons.inj h).1
    simp [this]
  · have : a ≠ b := fun e => h (by rw [e])
    simp [funl, this]; omega
  · have : a ≠ b := fun e => h (by rw [e])
    simp [this]
  · have : a ≠ b := fun e => h (by rw [e])
    simp [funl, this] at h1
    omega
theorem funl_row {f g : Int → Int} : ∀ (m : Nat) (k : Nat), ((List.range' k m).map fun (i : Nat) => f i) ≠ ((List.range' k m).map fun (i : Nat) => g i) →
    let q := funl ((List.range' k m).map fun (i : Nat) => f i) ((List.range' k m).map fun (i : Nat) => g i)
    q < m ∧ f ((k + q : Nat) : Int) ≠ g ((k + q : Nat) : Int) ∧ ∀ j : Nat, j < q → f ((k + j : Nat) : Int) = g ((k + j : Nat) : Int)
  | 0, k, h => absurd rfl h
  | m + 1, k, h => by
    rw [List.range'_succ, List.map_cons, List.map_cons] at h ⊢
    by_cases e : f (k : Nat) = g (k : Nat)
    · have h2 : ((List.range' (k + 1) m).map fun (i : Nat) => f i) ≠ ((List.range' (k + 1) m).map fun (i : Nat) => g i) := fun w => h (by rw [e, w])
      obtain ⟨i1, i2, i3⟩ := funl_row m (k + 1) h2
      simp only [funl, e, if_true]
      refine ⟨by omega, ?_, fun j hj => ?_⟩
      · have e2 : ∀ q : Nat, k + (q + 1) = k + 1 + q := fun q => by omega
        rw [e2]
        exact i2
      · cases j with
        | zero => exact e
        | succ j =>
          have := i3 j (by omega)
          have e2 : k + (j + 1) = k + 1 + j := by omega
          rw [e2]
          exact this
    · simp only [funl, e, if_false]
      exact ⟨by omega, e, fun j hj => absurd hj (Nat.not_lt_zero j)⟩
theorem span_range {f : Int → Int} (n : Nat) : (span n).map f = (List.range' 0 n).map fun (i : Nat) => f i := by
  unfold span
  rw [List.map_map, List.range_eq_range']
  rfl
theorem pok_row {n : Nat} {f g : Int → Int} : POk n ((span n).map f, (span n).map g) (fun z => !decide (f z = g z)) := by
  refine ⟨fun h z hz => ?_, fun h => ?_, fun h => ?_, fun h z h0 h1 => ?_⟩
  · have : f z = g z := by
      have h : (span n).map f = (span n).map g := h
      exact List.map_inj_left.mp h z (mem_span.mpr hz)
    simp [this]
  all_goals
    simp only [span_range] at *
    obtain ⟨i1, i2, i3⟩ := funl_row n 0 h
  · exact i1
  · simp only [Nat.zero_add] at i2
    simp [i2]
  · have := i3 z.toNat (by omega)
    simp only [Nat.zero_add] at this
    have e : ((z.toNat : Nat) : Int) = z := by omega
    rw [e] at this
    simp [this]
theorem row_span {n : Nat} {E : List (List Int)} (t : Tbl n E) {a : Int} (h : OkV n a) : rowOf E a = (span n).map fun z => cel E a z := by
  refine List.ext_getElem? fun i => ?_
  unfold span
  rw [List.map_map, List.getElem?_map]
  by_cases hi : i < n
  · rw [List.getElem?_range hi]
    have := t.cel_at h (b := (i : Int)) ⟨by omega, by omega⟩
    rw [Int.toNat_natCast] at this
    rw [this]
    rfl
  · rw [List.getElem?_eq_none (by rw [t.len_row h]; omega), List.getElem?_eq_none (by rw [List.length_range]; omega)]
    rfl
/-- all pairs of rows, and where they are unlike -/
inductive AllP (n : Nat) : List Sd → List (Int → Bool) → Prop
  | nil : AllP n [] []
  | cons {p : Sd} {u : Int → Bool} {ps : List Sd} {us : List (Int → Bool)} : POk n p u → AllP n ps us → AllP n (p :: ps) (u :: us)
theorem AllP.app {n : Nat} {ps qs : List Sd} {us vs : List (Int → Bool)} (h : AllP n ps us) (h2 : AllP n qs vs) : AllP n (ps ++ qs) (us ++ vs) := by
  induction h with
  | nil => exact h2
  | cons a _ ih => exact .cons a ih
theorem AllP.one {n : Nat} {p : Sd} {u : Int → Bool} (h : POk n p u) : AllP n [p] [u] := .cons h .nil
theorem lst_min : ∀ {l : List Nat} {m : Nat}, lst l = some m → m ∈ l ∧ ∀ a ∈ l, m ≤ a
  | [], m, h => nomatch h
  | a :: r, m, h => by
    have h : r.foldl min a = m := Option.some.inj h
    subst h
    clear h
    induction r generalizing a with
    | nil => simp
    | cons b r ih =>
      rw [List.foldl_cons]
      obtain ⟨h1, h2⟩ := ih (min a b)
      refine ⟨?_, fun c hc => ?_⟩
      · rcases List.mem_cons.mp h1 with h | h
        · rcases Nat.le_total a b with w | w
          · rw [h, Nat.min_eq_left w]; simp
          · rw [h, Nat.min_eq_right w]; simp
        · simp [h]
      · have h3 := h2 (min a b) List.mem_cons_self
        rcases List.mem_cons.mp hc with rfl | hc
        · omega
        · rcases List.mem_cons.mp hc with rfl | hc
          · omega
          · exact h2 c (List.mem_cons_of_mem _ hc)
theorem lst_none {l : List Nat} (h : lst l = none) : l = [] := by
  cases l with
  | nil => rfl
  | cons a r => cases h
theorem allp_p {n : Nat} {ps : List Sd} {us : List (Int → Bool)} (h : AllP n ps us) {p : Sd} : p ∈ ps → ∃ u ∈ us, POk n p u := by
  induction h with
  | nil => intro h; simp at h
  | cons a _ ih =>
    intro h
    rcases List.mem_cons.mp h with rfl | h
    · exact ⟨_, List.mem_cons_self, a⟩
    · obtain ⟨u, h1, h2⟩ := ih h
      exact ⟨u, List.mem_cons_of_mem _ h1, h2⟩
theorem allp_u {n : Nat} {ps : List Sd} {us : List (Int → Bool)} (h : AllP n ps us) {u : Int → Bool} : u ∈ us → ∃ p ∈ ps, POk n p u := by
  induction h with
  | nil => intro h; simp at h
  | cons a _ ih =>
    intro h
    rcases List.mem_cons.mp h with rfl | h
    · exact ⟨_, List.mem_cons_self, a⟩
    · obtain ⟨p, h1, h2⟩ := ih h
      exact ⟨p, List.mem_cons_of_mem _ h1, h2⟩
theorem allp_find {n : Nat} {ps : List Sd} {us : List (Int → Bool)} (h : AllP n ps us) {B : Int → Bool} (hB : ∀ z, OkV n z → B z = us.any fun u => u z) : (lst (plc ps)).map (fun (m : Nat) => (m : Int)) = (span n).find? B := by
  have mem : ∀ {m : Nat}, m ∈ plc ps ↔ ∃ p ∈ ps, p.1 ≠ p.2 ∧ funl p.1 p.2 = m := fun {m} => by
    unfold plc
    rw [List.mem_map]
    constructor
    · rintro ⟨p, hp, rfl⟩
      obtain ⟨h1, h2⟩ := List.mem_filter.mp hp
      exact ⟨p, h1, by simpa using h2, rfl⟩
    · rintro ⟨p, h1, h2, rfl⟩
      exact ⟨p, List.mem_filter.mpr ⟨h1, by simpa using h2⟩, rfl⟩
  have spl : (span n).length = n := span_len n
  have spg : ∀ {j : Nat} (h : j < (span n).length), (span n)[j] = (j : Int) := fun {j} h => by
    simp [span]
  cases e : lst (plc ps) with
  | none =>
    have e := lst_none e
    refine (List.find?_eq_none.mpr fun z hz => ?_).symm
    have hz := mem_span.mp hz
    rw [hB z hz]
    simp only [List.any_eq_true, not_exists, not_and, Bool.not_eq_true]
    intro u hu
    obtain ⟨p, hp, k⟩ := allp_u h hu
    by_cases q : p.1 = p.2
    · exact k.eq q z hz
    · have : funl p.1 p.2 ∈ plc ps := mem.mpr ⟨p, hp, q, rfl⟩
      rw [e] at this
      simp at this
  | some m =>
    obtain ⟨h1, h2⟩ := lst_min e
    obtain ⟨p, hp, hne, hm⟩ := mem.mp h1
    obtain ⟨u, hu, k⟩ := allp_p h hp
    have hlt : m < n := by rw [← hm]; exact k.lt hne
    refine (List.find?_eq_some_iff_getElem.mpr ⟨?_, m, by rw [spl]; exact hlt, spg _, fun j hj => ?_⟩).symm
    · rw [hB _ ⟨by omega, by omega⟩]
      exact List.any_eq_true.mpr ⟨u, hu, by rw [← hm]; exact k.at_ hne⟩
    · rw [spg, hB _ ⟨by omega, by omega⟩, Bool.not_eq_true', List.any_eq_false]
      intro v hv
      obtain ⟨p', hp', k'⟩ := allp_u h hv
      by_cases q : p'.1 = p'.2
      · have e := k'.eq q (j : Int) ⟨by omega, by omega⟩
        simp [e]
      · have := h2 _ (mem.mpr ⟨p', hp', q, rfl⟩)
        simp [k'.no q (j : Int) (by omega) (by omega)]
/-- where the sides are unlike, rule by rule -/
def allU (E : List (List Int)) (rule : Str) (x y : Int) : List (Int → Bool) :=
  (if rule = "order" then [fun _ => !decide (cel E x y = cel E y x)]
  else if rule = "first" then [fun _ => !decide (cel E (cel E x y) x = cel E x y)]
  else if rule = "last" then [fun _ => !decide (cel E (cel E x y) x = cel E y x)]
  else if rule = "keep" then [fun _ => !decide (cel E x y = x)]
  else if rule = "take" then [fun _ => !decide (cel E x y = y)]
  else if rule = "vanish" then [fun _ => !decide (cel E (cel E x x) y = y), fun _ => !decide (cel E (cel E y x) x = y)]
  else []) ++ (if rule ∈ R3s then [] else [fun z => !decide (cel E (cel E x y) z = cel E x (cel E y z))]) ++ (if rule ∈ R4s then [fun _ => !decide (cel E x x = x)] else []) ++ (if rule = "middle" then [fun z => !decide (cel E (cel E (cel E (cel E x y) x) z) x = cel E (cel E (cel E x y) z) x)] else []) ++ (if rule = "ends" then [fun z => !decide (cel E (cel E x y) z = cel E x z)] else [])
theorem all_ok {n : Nat} {E : List (List Int)} (t : Tbl n E) (hn : 1 ≤ n) {x y : Int} (hx : OkV n x) (hy : OkV n y) (rule : Str) : AllP n (allS E rule x y) (allU E rule x y) := by
  have xy := t.cel_ok hx hy
  refine AllP.app (AllP.app (AllP.app (AllP.app ?_ ?_) ?_) ?_) ?_
  · unfold shortS
    repeat' split
    all_goals first | exact .nil | exact .one (pok_one hn) | exact .cons (pok_one hn) (.one (pok_one hn))
  · split
    · exact .nil
    · unfold groupS
      rw [row_span t xy, row_span t hy, List.map_map]
      exact .one pok_row
  · split
    · exact .one (pok_one hn)
    · exact .nil
  · split
    · unfold middleS
      rw [row_span t (t.cel_ok xy hx), row_span t xy, List.map_map, List.map_map]
      exact .one pok_row
    · exact .nil
  · split
    · rw [row_span t xy, row_span t hx]
      exact .one pok_row
    · exact .nil
theorem triple_any {E : List (List Int)} {x y z : Int} : ∀ rule ∈ R9s, (!tripleB E rule x y z) = (allU E rule x y).any fun u => u z := by
  intro rule hr
  unfold R9s at hr
  simp only [List.mem_cons, List.not_mem_nil, or_false] at hr
  have s1 : ∀ a b : Str, (a = b) = (decide (a = b) = true) := fun a b => by simp
  rcases hr with rfl | rfl | rfl | rfl | rfl | rfl | rfl | rfl | rfl
  all_goals
    unfold tripleB allU sides R3s R4s
    try simp (config := { decide := true }) [fromLeft]
  all_goals
    rw [Bool.eq_iff_iff]
    simp only [Bool.or_eq_true, Bool.not_eq_true', decide_eq_true_eq, decide_eq_false_iff_not]
    grind
theorem breakZ_eq {n : Nat} {E : List (List Int)} (t : Tbl n E) (hn : 1 ≤ n) {x y : Int} (hx : OkV n x) (hy : OkV n y) {rule : Str} (hr : rule ∈ R9s) : (breakZ E rule x y).map (fun (m : Nat) => (m : Int)) = (span n).find? fun z => !tripleB E rule x y z :=
  allp_find (all_ok t hn hx hy rule) fun z _ => triple_any rule hr
end Fd

/-! own objects as data: fields, methods that may raise; tables that a def alone knows -/
namespace Fd
open PySem PySem.Spec PyProof.Rows L2 Fp
section
variable {K : PySem.W.Frag} {lv st : Bool} {W : Wd} {δ δ1 δ2 : List SV} {t : Nat} {a b u : TS} {R S : Out → Nat → Prop} {te ta tb : TE} {ti : TI} {tr : TA} {tt : TT} {d x y : PyData} {ds es xs : List PyData} {i j l n m k : Nat} {P : PyData → Prop} {g : TG} {c : Bool} {p q C : Addr} {kvs : List (PyData × PyData)} {f : Str}
theorem Dvf.no {H : Hp} {f : Str} : ∀ {kvs : List (PyData × PyData)} {fs : List (Str × V)}, Dvf K H fs kvs → fld f kvs = none → fs.lookup f = none
  | _, [], .nil, _ => rfl
  | _, (g, v) :: fs, .cons a b, e => by
    unfold fld at e
    by_cases h : g = f
    · simp [h] at e
    · simp only [h, if_false] at e
      rw [List.lookup_cons]
      have : (f == g) = false := by
        rw [beq_eq_false_iff_ne]
        exact fun w => h w.symm
      rw [this]
      exact Dvf.no b e
theorem ev_fld (cl : Cls K C) (na : NoAttr K C f) (h : Ev K lv δ te (iD C kvs)) (hf : fld f kvs = some d) : Ev K lv δ (tFld K te f) d := fun Z H σ al r Q q => h Z H σ al r _ fun v H1 e1 hv => by
  obtain ⟨a, dx, fs, rfl, ha, hfs⟩ := hv.inst
  obtain ⟨v, h1, h2⟩ := hfs.get hf
  exact ⟨a, C, dx, fs, v, rfl, (of_hid ha).1, cl, na, h1, q v H1 e1 h2⟩
/-- a def on data that may raise: F what comes back, G what is raised (class, field, what it holds) -/
def spVX (K : PySem.W.Frag) (F : List PyData → PyData → Prop) (G : List PyData → Addr → Str → PyData → Prop) : Sp := fun vs H Q E => ∃ (Z : Zs) (ds : List PyData), Al Z H ∧ Dvs K (hid Z H) vs ds ∧
  ((∃ d, F ds d ∧ ∀ v H', Same H H' → Dv K (hid Z H') v d → Q v H') ∨ ∃ CE f x, G ds CE f x ∧ ∀ dd v H', H dd = none → Same H H' → H' dd = some (.xd [(f, v)]) → Dv K (hid Z H') v x → E (.ref CE) (some dd) H')
theorem ev_methX {E : XK} {m : Str} {F : List PyData → PyData → Prop} {G : List PyData → Addr → Str → PyData → Prop} (ha : Ev K lv δ ta (iD C kvs)) (hm : fld m kvs = none) (ht : EvA K lv δ tr ds) (hF : F (iD C kvs :: ds) d) : Ev K lv δ (tMeth C m (spVX K F G) [] E ta tr) d := fun Z H σ al r Q q => ha Z H σ al r _ fun v H1 e1 hv => by
  obtain ⟨a, dx, fs, rfl, hi, hfs⟩ := hv.inst
  refine ⟨a, dx, fs, rfl, (of_hid hi).1, hfs.no hm, ht Z H1 σ (al.same e1) (r.same e1) _ fun vs H2 e2 hvs => ?_⟩
  rw [List.append_nil]
  exact ⟨Zl lv Z δ, _, (r.all al lv).same (e1.trans e2), .cons (hv.same (same_hid e2)) hvs, .inl ⟨d, hF, fun v H3 e3 hv3 => q v H3 ((e1.trans e2).trans e3) hv3⟩⟩
/-- a body on data, run -/
theorem sw_run {ts : TS} {N ps : List Str} {Z : Zs} {H : Hp} {vs : List V} {D : Ends} (hw : Sw K none (ds.map SV.d ++ List.replicate (N.length - ps.length) .u) 0 ts (Fin fun d' _ => d' = d)) (al : Al Z H) (hv : Dvs K (hid Z H) vs ds) (hl : ds.length = ps.length) (hN : ps.length ≤ N.length)
    (q : ∀ v H', Same H H' → Dv K (hid Z H') v d → D.rt v H') (qn : d = .none → ∀ σ' H', Same H H' → D.nx σ' H') : ts D (start N vs) H := by
  refine hw Z H _ _ ⟨fun a h => (nomatch h), fun pc h => (nomatch h)⟩ al (rel_start hv hl hN) trivial (fun δ' t' σ' H' e f r i => ?_) (fun d' t' v H' e f i hv' => ?_) (fun δ' t' σ' H' e => e.elim) (fun δ' t' σ' H' e => e.elim) (fun p x t' H' e => e.elim)
  · have e : PyData.none = d := e
    exact qn e.symm σ' H' (fun b o hb => f.frm.keep b o hb (mo_f.mpr ⟨rfl, by rw [own_d]; simp⟩))
  · have e : d' = d := e
    subst e
    exact q v H' (fun b o hb => f.keep b o hb (mo_f.mpr ⟨rfl, by rw [own_d]; simp⟩)) hv'
theorem sw_drop (h : Ev K lv δ te d) (q : R (.nx δ) t) : Sw K W δ t (tDrop te) R := fun Z H σ D mz al r iw h1 h2 h3 h4 h5 => h Z H σ al r _ fun v H1 e1 hv => h1 δ t σ H1 q (Aft.of (Frm.of e1) fun p hp => .inl hp) (r.same e1) (iw.same e1)
theorem evb_isi {z : Int} {cls : String} {b : Bool} (h : Ev K lv δ te (.int z)) (hk : kitB "int" cls = some b) : EvB K δ (tB (tCB (rIsi K) (tCons te (tCons (tC (.ty cls)) tNil)))) b := fun Z H σ al r Q q => h Z H σ al r _ fun v H1 e1 hv => by
  cases hv
  exact ⟨_, _, .type "int", .type cls, b, rfl, .ty _, .base (.int _), kit_ty hk, b, rfl, q H1 e1⟩
theorem ev_chain {r r' : R2} {tc : TE} {z : PyData} {b1 b2 : Bool} (ha : Ev K lv δ ta x) (hb : Ev K lv δ tb y) (hc : Ev K lv δ tc z) (h1 : R2d K r x y (.bool b1)) (h2 : R2d K r' y z (.bool b2)) : Ev K lv δ (tChain r r' ta tb tc) (.bool (b1 && b2)) := fun Z H σ al re Q q =>
  ha Z H σ al re _ fun v H1 e1 hv => hb Z H1 σ (al.same e1) (re.same e1) _ fun w H2 e2 hw => by
    refine h1 _ H2 v w (((re.same e1).same e2).all ((al.same e1).same e2) lv) (hv.same (same_hid e2)) hw _ fun u H3 e3 hu => ⟨b1, hu.bool, ?_⟩
    have e13 := e1.trans (e2.trans e3)
    cases b1 with
    | true => exact hc Z H3 σ (al.same e13) (re.same e13) _ fun u2 H4 e4 hu2 => h2 _ H4 w u2 ((re.same (e13.trans e4)).all (al.same (e13.trans e4)) lv) (hw.same (same_hid (e3.trans e4))) hu2 _ fun u3 H5 e5 hu3 => q u3 H5 (e13.trans (e4.trans e5)) hu3
    | false => exact q _ H3 e13 (.bl _)
def noneB : PyData → Bool
  | .none => true
  | _ => false
theorem evb_notN (h : Ev K lv δ te d) : EvB K δ (tB (tNotN te)) (!noneB d) := fun Z H σ al r Q q => h Z H σ al r _ fun v H1 e1 hv => by
  refine ⟨_, rfl, ?_⟩
  have : (!decide (v = V.non)) = !noneB d := by cases hv <;> rfl
  rw [this]
  exact q H1 e1
/-! ### tables of one's own -/
def zeroM (n : Nat) : List (List Int) := List.replicate n (List.replicate n 0)
theorem zero_len {n : Nat} : (zeroM n).length = n := List.length_replicate
def spTN (C : Addr) : Sp := fun vs H Q _ => ∃ (p dx : Addr) (n : Nat), vs = [.ref p, .int (n : Nat)] ∧ H p = some (.ins C dx []) ∧ 1 ≤ n ∧ n ≤ 60 ∧ ∀ (R : Addr) (rs : List Addr) H', (∀ b o, H b = some o → b ≠ p → H' b = some o) → (∀ a ∈ R :: rs, H a = none) → (R :: rs).Nodup →
  H' p = some (.ins C dx (tFl (n : Nat) (.ref R))) → MatAt H' R rs (zeroM n) → Q .non H'
theorem sw_newT {E : XK} (h : Ev K lv δ te (.int (n : Nat))) (h1 : 1 ≤ n) (h2 : n ≤ 60) (hi : i < δ.length) (q : ∀ p dx A rs, R (.nx (δ.set i (.o p (.tab C dx A rs (zeroM n))))) t) : Sw K W δ t (tAsg (tMake C (spTN C) [] E (tCons te tNil)) (gName i)) R := fun Z H σ D mz al r iw k1 k2 k3 k4 k5 =>
  h Z H σ al r _ fun v H1 e1 hv => by
    cases hv
    intro x dx hx hdx ne
    refine ⟨x, dx, n, rfl, upd_same, h1, h2, fun A rs H' e2 hn nd hp hm => ⟨rfl, ?_⟩⟩
    have f1 : ∀ b, b ≠ x → b ≠ dx → upd (upd H1 dx (.own x)) x (.ins C dx []) b = H1 b := fun b n1 n2 => by rw [upd_ne n1, upd_ne n2]
    have e : Same H H' := fun b o hb => by
      have hb := e1 b o hb
      have n1 : b ≠ x := fun w => by rw [w, hx] at hb; cases hb
      have n2 : b ≠ dx := fun w => by rw [w, hdx] at hb; cases hb
      exact e2 b o (by rw [f1 b n1 n2]; exact hb) n1
    have back : ∀ b, H1 b = none → H b = none := fun b hb => (Frm.of (M := fun _ => false) e1).none hb
    have hA : ∀ a ∈ A :: rs, a ≠ x ∧ a ≠ dx ∧ H a = none := fun a ha => by
      have h0 := hn a ha
      have n1 : a ≠ x := fun w => by rw [w, upd_same] at h0; cases h0
      have n2 : a ≠ dx := fun w => by rw [w, upd_ne ne, upd_same] at h0; cases h0
      rw [f1 a n1 n2] at h0
      exact ⟨n1, n2, back a h0⟩
    have hall : ∀ a ∈ OV.adrs x (.tab C dx A rs (zeroM n)), H a = none := fun a ha => by
      rcases List.mem_cons.mp ha with rfl | ha
      · exact back _ hx
      · exact (hA a ha).2.2
    refine k1 _ t _ H' (q x dx A rs) (Aft.of (Frm.of e) fun b hb => ?_) (r.mine (x := .tab C dx A rs (zeroM n)) al e hall (List.nodup_cons.mpr ⟨fun w => (hA x w).1 rfl, nd⟩) (fun Hh s => ⟨by rw [zero_len]; exact hp, hm⟩) hi) (iw.same e)
    rcases own_set δ i b hb with w | w
    · exact .inr (hall b w)
    · exact .inl w
def setM (E : List (List Int)) (a b z : Int) : List (List Int) := E.set a.toNat ((rowOf E a).set b.toNat z)
/-- o[a, b] = z of a table -/
def spTS (K : PySem.W.Frag) (C : Addr) : Sp := fun vs H Q _ => ∃ (p q dx A : Addr) (rs : List Addr) (E : List (List Int)) (a b z : Int) (n : Nat), vs = [.ref p, .ref q, .int z] ∧ H p = some (.ins C dx (tFl (E.length : Nat) (.ref A))) ∧ MatAt H A rs E ∧ Tbl n E ∧ n ≤ 100 ∧ SqT K H q [.int a, .int b] ∧ OkV n a ∧ OkV n b ∧ OkV n z ∧
  ∀ (r' : Addr) H', rs[a.toNat]? = some r' → (∀ c o, H c = some o → c ≠ r' → H' c = some o) → H' r' = some (.lst (((rowOf E a).set b.toNat z).map V.int)) → Q .non H'
theorem setM_tbl {n : Nat} {E : List (List Int)} {a b z : Int} (t : Tbl n E) (ha : OkV n a) (hz : OkV n z) : Tbl n (setM E a b z) := by
  unfold setM
  obtain ⟨h1, h2⟩ := t.at ha
  refine ⟨by rw [List.length_set]; exact t.len, fun r hr => ?_, fun r hr y hy => ?_⟩
  · rcases List.mem_or_eq_of_mem_set hr with h | rfl
    · exact t.row r h
    · rw [List.length_set]; exact t.row _ h2
  · rcases List.mem_or_eq_of_mem_set hr with h | rfl
    · exact t.val r h y hy
    · rcases List.mem_or_eq_of_mem_set hy with h | rfl
      · exact t.val _ h2 y h
      · exact hz
theorem tab_gsub {E0 : XK} {tx ty : TE} {dx A : Addr} {rs : List Addr} {E : List (List Int)} {a b z : Int} (h : δ[i]? = some (.o p (.tab C dx A rs E))) (tb : Tbl n E) (hn : n ≤ 100) (hx : Ev K lv δ tx (.int a)) (hy : Ev K lv δ ty (.int b)) (oa : OkV n a) (ob : OkV n b) (oz : OkV n z)
    {Z : Zs} {H : Hp} {σ : L2.St} {Q : L2.St → Hp → Prop} (mz : Hd W Z) (al : Al Z H) (r1 : Rel K Z H σ δ) (iw : Iw W t H) (h1 : ∀ H', Aft W δ ((fgt δ).set i (.o p (.tab C dx A rs (setM E a b z)))) H H' → Rel K Z H' σ ((fgt δ).set i (.o p (.tab C dx A rs (setM E a b z)))) → Iw W t H' → Q σ H') :
    gSub (tVar i) (tTup (tCons tx (tCons ty tNil))) (rSetOwn C (spTS K C) E0) (.int z) σ H Q := by
  refine ⟨_, (r1.ok i _ h).1, hx Z H σ al r1 _ fun w H2 e2 hw => hy Z H2 σ (al.same e2) (r1.same e2) _ fun u H3 e3 hu => ⟨by show 2 ≤ sizeLine; decide, fun tq htq => ?_⟩⟩
  cases hw
  cases hu
  have e4 : Same H (upd H3 tq (.tup [.int a, .int b])) := (e2.trans e3).trans (same_new htq)
  have r4 := r1.same e4
  obtain ⟨_, hp, hm⟩ := r4.ok i _ h
  refine ⟨p, dx, _, rfl, hp, p, tq, dx, A, rs, E, a, b, z, n, rfl, hp, hm, tb, hn, .inl (.inl upd_same), oa, ob, oz, fun r' H5 hr' e5 h5' => ?_⟩
  have inr : r' ∈ OV.adrs p (.tab C dx A rs E) := List.mem_cons_of_mem _ (List.mem_cons_of_mem _ (List.mem_of_getElem? hr'))
  have nd := own_adr r4.nd h
  have nd : (p :: A :: rs).Nodup := nd
  obtain ⟨n1, n2⟩ := List.nodup_cons.mp nd
  obtain ⟨n3, n4⟩ := List.nodup_cons.mp n2
  have npr : p ≠ r' := fun w => n1 (by rw [w]; exact List.mem_cons_of_mem _ (List.mem_of_getElem? hr'))
  have nar : A ≠ r' := fun w => n3 (by rw [w]; exact List.mem_of_getElem? hr')
  have keep : ∀ c o, upd H3 tq (.tup [.int a, .int b]) c = some o → c ∉ OV.adrs p (.tab C dx A rs E) → H5 c = some o := fun c o hc m => e5 c o hc fun w => m (by rw [w]; exact inr)
  have al5 : ∀ c, upd H3 tq (.tup [.int a, .int b]) c ≠ none → H5 c ≠ none := fun c hc => by
    by_cases w : c = r'
    · rw [w, h5']; intro z; cases z
    · cases e : upd H3 tq (.tup [.int a, .int b]) c with
      | none => exact absurd e hc
      | some o => rw [e5 c o e w]; intro z; cases z
  refine h1 H5 (Aft.chg (Frm.of e4) h rfl keep al5) (r4.chg (y := .tab C dx A rs (setM E a b z)) h rfl keep ⟨?_, ?_, ?_, fun k2 r3 row2 g1 g2 => ?_⟩) ?_
  · have : (setM E a b z).length = E.length := by unfold setM; rw [List.length_set]
    rw [this]
    exact e5 _ _ hp npr
  · exact e5 _ _ hm.1 nar
  · unfold setM
    rw [List.length_set]
    exact hm.2.1
  · unfold setM at g2
    by_cases kk : a.toNat = k2
    · subst kk
      rw [hr'] at g1
      cases g1
      rw [List.getElem?_set_self (by rw [tb.len]; exact (okv_nat oa).1)] at g2
      cases g2
      exact h5'
    · rw [List.getElem?_set_ne kk] at g2
      refine e5 _ _ (hm.2.2 k2 r3 row2 g1 g2) fun w => ?_
      subst w
      exact kk (nodup_at n4 hr' g1)
  · cases W with
    | none => trivial
    | some pc =>
      obtain ⟨i4, i4t⟩ : PenOk _ pc.1 pc.2.1 t ∧ NdefX.TabsN pc.2.2 _ := iw.same e4
      obtain ⟨cells, turn, left, g1, g2, g3, g4, g5⟩ := i4.ex
      have off := r4.off r' (own_in h inr)
      have zp : Z pc.1 = true := mz.m pc.1 mw_p
      have zc : Z pc.2.1 = true := mz.c pc rfl
      refine ⟨⟨cells, turn, left, e5 _ _ g1 (fun w => by rw [w, off] at zp; cases zp), e5 _ _ g2 (fun w => by rw [w, off] at zc; cases zc), g3, g4, g5⟩, tabs_kept i4t (hm.2.2 _ _ _ hr' (tb.at oa).1) (fun w => by have := mz.m r' (mw_t w); rw [off] at this; cases this) (fun q z => by unfold LamX.CodeO at z; cases z) e5⟩
theorem sw_tabset {E0 : XK} {tx ty : TE} {dx A : Addr} {rs : List Addr} {E : List (List Int)} {a b z : Int} (h : δ[i]? = some (.o p (.tab C dx A rs E))) (tb : Tbl n E) (hn : n ≤ 100) (he : Ev K lv δ te (.int z)) (hx : Ev K lv δ tx (.int a)) (hy : Ev K lv δ ty (.int b)) (oa : OkV n a) (ob : OkV n b) (oz : OkV n z)
    (q : R (.nx ((fgt δ).set i (.o p (.tab C dx A rs (setM E a b z))))) t) : Sw K W δ t (tAsg te (gSub (tVar i) (tTup (tCons tx (tCons ty tNil))) (rSetOwn C (spTS K C) E0))) R := fun Z H σ D mz al r iw h1 h2 h3 h4 h5 => he Z H σ al r _ fun v H1 e1 hv => by
  cases hv
  exact tab_gsub h tb hn hx hy oa ob oz mz (al.same e1) (r.same e1) (iw.same e1) fun H' f r' i' => h1 _ t _ H' q ((Aft.of (Frm.of e1) fun b hb => .inl hb).trans f) r' i'
/-- o[a, b], x = (z, rows[k]) -/
theorem sw_tabrow {E0 : XK} {tx ty ti : TE} {dx A q : Addr} {rs ss : List Addr} {E M : List (List Int)} {a b z : Int} {r' : Addr} (hm : δ[j]? = some (.o q (.mat ss M))) (h : δ[i]? = some (.o p (.tab C dx A rs E))) (tb : Tbl n E) (hn : n ≤ 100) (he : Ev K lv δ te (.int z)) (hk : Ev K lv δ ti (.int (k : Nat))) (hs : ss[k]? = some r') (hx : Ev K lv δ tx (.int a)) (hy : Ev K lv δ ty (.int b)) (oa : OkV n a) (ob : OkV n b) (oz : OkV n z)
    (qq : R (.nx (((fgt δ).set i (.o p (.tab C dx A rs (setM E a b z)))).set l (.v (.ref r')))) t) : Sw K W δ t (tAsg (tTup (tCons te (tCons (tOp (rIxL K) (tVar j) ti) tNil))) (gTup K 2 (gCons (gSub (tVar i) (tTup (tCons tx (tCons ty tNil))) (rSetOwn C (spTS K C) E0)) (gCons (gName l) gNil)))) R := fun Z H σ D mz al r iw h1 h2 h3 h4 h5 => he Z H σ al r _ fun v H1 e1 hv => by
  cases hv
  refine ⟨_, ((r.same e1).ok j _ hm).1, hk Z H1 σ (al.same e1) (r.same e1) _ fun w H2 e2 hw => ?_⟩
  cases hw
  obtain ⟨_, hm2⟩ := ((r.same e1).same e2).ok j _ hm
  refine ⟨_, _, _, .ref r', rfl, rfl, .inl (.inl hm2.1), atI_nat (by rw [List.getElem?_map, hs]; rfl), ⟨by show 2 ≤ sizeLine; decide, fun tp htp => ⟨tp, _, rfl, .inl (.inl upd_same), rfl, _, _, rfl, ?_⟩⟩⟩
  have e3 : Same H (upd H2 tp (.tup [.int z, .ref r'])) := (e1.trans e2).trans (same_new htp)
  refine tab_gsub h tb hn hx hy oa ob oz mz (al.same e3) (r.same e3) (iw.same e3) fun H' f r2 i' => ⟨_, _, rfl, rfl, ?_⟩
  exact h1 _ t _ H' qq (((Aft.of (Frm.of e3) fun b hb => .inl hb).trans f).trans (Aft.of Frm.refl fun b hb => .inl (own_put rfl b hb))) (r2.put rfl rfl) i'
end
end Fd

/-! defs on data that hand back a new thing -/
namespace Fd
open PySem PySem.Spec PyProof.Rows L2 Fp
def flatO : OV → Bool
  | .mat _ _ => true
  | .tab _ _ _ _ _ => true
  | _ => false
theorem OvAt.flat {K : PySem.W.Frag} {Hh Hh' H : Hp} {p : Addr} {x : OV} (h : OvAt K Hh H p x) (f : flatO x = true) : OvAt K Hh' H p x := by
  cases x with
  | mat _ _ => exact h
  | tab _ _ _ _ _ => exact h
  | lst _ => cases f
  | dk _ => cases f
  | dt _ => cases f
  | two _ _ => cases f
def spVO (K : PySem.W.Frag) (P : List PyData → Prop) (G : List PyData → OV → Prop) : Sp := fun vs H Q _ => ∃ (Z : Zs) (ds : List PyData), Al Z H ∧ Dvs K (hid Z H) vs ds ∧ P ds ∧
  ∀ p x H', Same H H' → G ds x → OvAt K (hid (fun a => Z a || decide (a ∈ x.adrs p)) H') H' p x → (∀ a ∈ x.adrs p, H a = none) → (x.adrs p).Nodup → Q (.ref p) H'
section
variable {K : PySem.W.Frag} {lv st : Bool} {W : Wd} {δ δ1 δ2 : List SV} {t : Nat} {a b u : TS} {R S : Out → Nat → Prop} {te ta tb : TE} {ti : TI} {tr : TA} {tt : TT} {d x y : PyData} {ds es xs : List PyData} {i j l n m k : Nat} {g : TG} {c : Bool}
theorem sw_callVO {P : List PyData → Prop} {G : List PyData → OV → Prop} (h : EvA K lv δ tr ds) (hP : P ds) (hf : ∀ x, G ds x → flatO x = true) (hi : i < δ.length) (q : ∀ p x, G ds x → R (.nx (δ.set i (.o p x))) t) : Sw K W δ t (tAsg (tCall (spVO K P G) [] E0 tr) (gName i)) R := fun Z H σ D mz al r iw k1 k2 k3 k4 k5 =>
  h Z H σ al r _ fun vs H1 e1 hv => by
    rw [List.append_nil]
    refine ⟨Zl lv Z δ, ds, (r.all al lv).same e1, hv, hP, fun p x H2 e2 hg ho hn nd => ?_⟩
    have e : Same H H2 := e1.trans e2
    have hn' : ∀ a ∈ x.adrs p, H a = none := fun a ha => (Frm.of (M := fun _ => false) e1).none (hn a ha)
    refine k1 _ t _ H2 (q p x hg) (Aft.of (Frm.of e) fun b hb => ?_) (r.mine al e hn' nd (fun Hh s => ho.flat (hf x hg)) hi) (iw.same e)
    rcases own_set δ i b hb with w | w
    · exact .inr (hn' b w)
    · exact .inl w
end
section
variable {P : Program} {w : World} {K : PySem.W.Frag} {mg : Str → Option Value} {base : Heap}
theorem fun_VO {x qual : Str} {st : Stmt} {f : Addr} {fd : FuncData} {N ps : List Str} {k : Nat} (F : Fun K x qual st f fd) (S : FnScope N ps (defScope st)) {P' : List PyData → Prop} {G : List PyData → OV → Prop} (hN : ps.length ≤ N.length) (hl : ∀ ds, P' ds → ds.length = ps.length)
    (hbody : ∀ (cdv : Value) (A : Around) (outer : List Env) (s : Shared) (H : Hp) (E : XK) (ds : List PyData), Room k (A.deeper (envOfC qual (defScope st) s.heap.objs.size f cdv)) → P' ds →
      ∃ t, PSs (cxOf CX0 P w K mg base N qual (defScope st) f cdv A outer s H E).nox (defBody st) t ∧ Sw K none (ds.map SV.d ++ List.replicate (N.length - ps.length) .u) 0 t (FinM fun x _ => G ds x)) : FnOk P w K mg base CX0 (k + 1) f fd ps (spVO K P' G) := by
  refine F.ok S (fun vs H Q E h => ?_) (fun cdv A outer s H vs Q E hr h => ?_)
  · obtain ⟨Z, ds, _, hv, hg, _⟩ := h
    rw [hv.len, hl ds hg]
  · obtain ⟨Z, ds, al, hv, hg, q⟩ := h
    obtain ⟨t, ht, hw⟩ := hbody cdv A outer s H E ds hr hg
    refine ⟨t, ht, hw Z H _ _ ⟨fun a h => (nomatch h), fun pc h => (nomatch h)⟩ al (rel_start hv (hl ds hg) hN) trivial (fun δ' t' σ' H' e f r i => e.elim) (fun d' t' v H' e f i hv' => e.elim) (fun δ' t' σ' H' e => e.elim) (fun δ' t' σ' H' e => e.elim) (fun p x t' H' e f i nw => ?_)⟩
    refine q p x H' (fun b o hb => f.keep b o hb (mo_f.mpr ⟨rfl, by rw [own_d]; simp⟩)) e nw.ok (fun a ha => ?_) nw.nd
    rcases nw.new a ha with w | w
    · rw [own_d] at w; simp at w
    · exact w
end
/-- a method that may raise -/
def Me (P : Program) (w : World) (K : PySem.W.Frag) (mg : Str → Option Value) (base : Heap) (k : Nat) (C : Addr) (m : Str) (ps : List Str) (sp : Sp) : Prop :=
  ∃ g fd, Meth K C m g ∧ Binds K fd ps [] ∧ FnOk P w K mg base (L2.CX P w) k g fd ps sp
theorem pme {X : Cx} {k : Nat} {C : Addr} {m : Str} {ps : List Str} {sp : Sp} {E : XK} {pl : Sem Bool} {o e : Expr} {es : List Expr} {pos apos : Pos} {ta : TE} {t : TA} (c : Cls X.K C) (M : Me X.prog X.w X.K X.mg X.base k C m ps sp) (hr : Room k X.A) (hx : Passes (L2.CX X.prog X.w) X E) (he : PE X o ta) (ha : PA X (e :: es) t)
    (hst : starEach (e :: es) X.env = (false, eval e X.env) :: starEach es X.env := by rfl) (hpl : (backTo pos (starEach es X.env)).any (·.1) = false := by rfl)
    (ht : eval (.Call (.Attribute o m apos) (e :: es) [] pos) X.env = (do
      let ov ← eval o X.env
      standAt apos.atName
      let (f, first) ← holding [ov] (getMethod ov m pl)
      callWith pos f first (backTo pos (starEach (e :: es) X.env)) (backToKw pos (keywordEach [] X.env))) := by rfl) :
    PE X (.Call (.Attribute o m apos) (e :: es) [] pos) (tMeth C m sp [] E ta t) := by
  obtain ⟨g, fd, h1, h2, h3⟩ := M
  exact pe_meth he c h1 h3 hr h2 .nil hx ha hst hpl ht
/-- a method that may raise, what is raised met with the names as they stand -/
def tMethO (C : Addr) (m : Str) (sp : Sp) (E : L2.St → XK) (ta : TE) (t : TA) : TE := fun σ H Q => ta σ H fun x H1 => ∃ a dx fs, x = .ref a ∧ H1 a = some (.ins C dx fs) ∧ fs.lookup m = none ∧ t σ H1 fun vs H2 => sp (x :: vs) H2 Q (E σ)
theorem pmo {X : Cx} {W : WX} {k : Nat} {C : Addr} {m : Str} {ps : List Str} {sp : Sp} {pl : Sem Bool} {o e : Expr} {es : List Expr} {pos apos : Pos} {ta : TE} {t : TA} (c : Cls X.K C) (M : Me X.prog X.w X.K X.mg X.base k C m ps sp) (hr : Room k X.A) (tk : Takes X W) (he : PE X o ta) (ha : PA X (e :: es) t)
    (hst : starEach (e :: es) X.env = (false, eval e X.env) :: starEach es X.env := by rfl) (hpl : (backTo pos (starEach es X.env)).any (·.1) = false := by rfl)
    (ht : eval (.Call (.Attribute o m apos) (e :: es) [] pos) X.env = (do
      let ov ← eval o X.env
      standAt apos.atName
      let (f, first) ← holding [ov] (getMethod ov m pl)
      callWith pos f first (backTo pos (starEach (e :: es) X.env)) (backToKw pos (keywordEach [] X.env))) := by rfl) :
    PE X (.Call (.Attribute o m apos) (e :: es) [] pos) (tMethO C m sp (WE W) ta t) := by
  obtain ⟨g, fd, hm, hb, F⟩ := M
  refine ⟨fun pins s σ H Q I h => ?_⟩
  refine PySem.W.methodCall_KW (pl := pl) (thn (he.run pins s σ H _ I h) fun u s1 ⟨x, H1, I1, rx, a, dx, fs, ex, ea, l, q⟩ => ?_) ht
  subst ex
  obtain rfl : u = Value.ref a := rx
  refine getmeth_ok I1 ea c hm l ?_
  refine PySem.W.callWith_K (first := [.ref a]) (h₀ := X.base) I.ok.mod.kin hm.kp (thn (ha.run pos pins s1 σ H1 _ I1 q) fun us s2 ⟨vs, H2, I2, r, q2⟩ => ⟨I2.kIn, ?_⟩) hst hpl
  exact run_fnS (us := .ref a :: us) (vs := .ref a :: vs) F hr hb (passAt tk σ) I2 (.cons rfl r) q2
end Fd

/-! the law's own body -/
namespace Fd
open PySem PySem.Spec PyProof.Rows L2 Fp
/-- repr of data, None among it -/
def rReprN (K : PySem.W.Frag) : List V → Hp → VK → Prop := fun xs H Q => (xs = [.non] ∧ Q (.str "None") H) ∨ rReprD K xs H Q
theorem call_reprN {X : Cx} {k : Nat} {K : PySem.W.Frag} (hr : RoomG k X.A) (hK : X.K = K := by rfl) : CallR X (.builtin "repr") (rReprN K) := by
  intro pins s σ H xs us Q I r h
  rcases h with ⟨rfl, q⟩ | h
  · obtain ⟨u, rfl, ru⟩ := vals1 r
    obtain rfl : u = Value.none := ru
    exact P.repr_of_none ⟨.str "None", H, I.kept fun b o z => z, ⟨_, rfl⟩, q⟩
  · exact call_reprD hr hK pins s σ H xs us Q I r h
theorem ra_repr {K : PySem.W.Frag} {ds : List PyData} {d : PyData} (hd : d = .none ∨ d = .tuple ds) (h1 : d.showable = true) (h2 : d.hasDict = false) (h3 : d.depth ≤ 64) (h4 : d.shown.length ≤ sizeLine) : RAd K (rReprN K) [d] (.str d.shown) := fun Z H vs al h Q q => by
  cases h with
  | cons a b =>
    cases b
    rcases hd with rfl | rfl
    · cases a
      exact .inl ⟨rfl, q _ H (Same.refl _) (.str _)⟩
    · obtain ⟨p, xs, rfl, _, _⟩ := a.tuple
      exact .inr ⟨p, _, rfl, hid_dp a h2, h1, h2, h3, h4, q _ H (Same.refl _) (.str _)⟩
theorem own_us : ∀ (m : Nat) (v : V), own (.u :: .v v :: List.replicate m .u) = [] := fun m v => by
  have : own (List.replicate m .u) = [] := own_d [] m
  exact this
theorem law_go {K : PySem.W.Frag} {rest : TS} {m : Nat} {a : Addr} {ns : List Int} {H : Hp} {D : Ends} (hS : SqL K H a (ns.map V.int)) (hlen : ns.length ≤ 63) (q : ∀ H', D.rt (.bl true) H') (hw : ∀ p (c : Addr × List NdefX.NTab), Sw K (some (p, c)) (.u :: .v (.ref p) :: List.replicate m .u) 0 rest (Fin fun d _ => d = .bool true)) :
    tSeq (tAsg (tCall (spPen K) [] E0 (tCons (tVar 0) tNil)) (gName 1)) rest D (some (.ref a) :: List.replicate (m + 1) none) H := by
  refine seqi fun k0 hk0 => ?_
  refine ⟨_, rfl, a, ns, rfl, hS, hlen, fun H1 p c np e1 P1 => ?_⟩
  subst hk0
  have hp : H1 p ≠ none := by
    obtain ⟨cells, turn, left, g1, g2, _⟩ := P1.ex
    rw [g1]; intro z; cases z
  have hc : H1 c ≠ none := by
    obtain ⟨cells, turn, left, g1, g2, _⟩ := P1.ex
    rw [g2]; intro z; cases z
  refine hw p (c, []) (fun x => decide (x = p) || decide (x = c)) H1 _ _ ⟨fun b h => hd_nil (p := p) (c := c) (Z := fun x => decide (x = p) || decide (x = c)) (by simp) h, fun pc e => by cases e; simp⟩ (fun b h => ?_) ⟨by simp, fun i s hi => ?_, by rw [own_us]; exact List.nodup_nil, fun b hb => by rw [own_us] at hb; simp at hb⟩ ⟨P1, fun x hx => nomatch hx⟩ (fun δ' t' σ' H' e => ?_) (fun d' t' v H' e f i hv => ?_) (fun δ' t' σ' H' e => e.elim) (fun δ' t' σ' H' e => e.elim) (fun p x t' H' e => e.elim)
  · rcases Bool.or_eq_true_iff.mp h with h | h
    · rw [of_decide_eq_true h]; exact hp
    · rw [of_decide_eq_true h]; exact hc
  · match i, hi with
    | 0, rfl => trivial
    | 1, rfl => rfl
    | i + 2, hi =>
      have hi : (List.replicate m SV.u)[i]? = some s := hi
      have := List.eq_of_mem_replicate (List.mem_of_getElem? hi)
      rw [this]
      trivial
  · have e : PyData.none = .bool true := e
    cases e
  · have e : d' = .bool true := e
    subst e
    rw [hv.bool]
    exact q H'
section
variable {K : PySem.W.Frag} {lv : Bool} {W : Wd} {δ : List SV} {t n : Nat} {a b : TS} {R : Out → Nat → Prop} {te : TE} {P : PyData → Prop}
/-- if not .. with draws -/
theorem sw_ifNX (h : Ex K lv W δ te n P) (ht : t + n ≤ 1000000000) (hP : ∀ d, P d → ∃ c : Bool, d = .bool c ∧ (c = false → Sw K W δ (t + n) a R) ∧ (c = true → Sw K W δ (t + n) b R)) : Sw K W δ t (tIfS (tNot (tB te)) a b) R := fun Z H σ D mz al r iw q1 q2 q3 q4 q5 =>
  h Z H σ t mz al r iw ht _ fun v d H1 f i1 pd hv => by
    obtain ⟨c, rfl, h1, h2⟩ := hP d pd
    refine ⟨c, hv.bool, ?_⟩
    cases c with
    | true => exact (h2 rfl).go (s := 0) mz al r i1 f q1 q2 q3 q4 q5
    | false => exact (h1 rfl).go (s := 0) mz al r i1 f q1 q2 q3 q4 q5
end
end Fd

/-! zip(*rows): an iterator over as many lists as the list of lists has, its rows new tuples -/
namespace FZ
open PySem PySem.Spec PyProof.Rows L2
open PySem.Sem (wp)
theorem newCall_any : ∀ (vs : List Value), checkBuiltinCall "zip.__new__" ⟨.type "zip" :: vs, []⟩ = pure ()
  | [] => by kernel_rfl
  | v :: vs => by kernel_rfl
theorem typeCall_any (vs : List Value) : checkTypeCall "zip" ⟨vs, []⟩ = pure () := by kernel_rfl
theorem argsInit_any (obj : Value) : ∀ (vs : List Value), argsOk "object.__init__" ⟨obj :: vs, []⟩
  | [] => by
    unfold argsOk; rw [signature?_of (id := "object.__init__") (n := ['_', '_', 't', 'i', 'n', 'i', '_', '_']) (o := ['t', 'c', 'e', 'j', 'b', 'o']) (by kernel_rfl) F.owner_object]; kernel_rfl
  | v :: vs => by
    unfold argsOk; rw [signature?_of (id := "object.__init__") (n := ['_', '_', 't', 'i', 'n', 'i', '_', '_']) (o := ['t', 'c', 'e', 'j', 'b', 'o']) (by kernel_rfl) F.owner_object]; kernel_rfl
/-- a walk over a list that never leaves early -/
theorem forIn_keep {M : Model} {A : Around} {E : Value → Shared → Prop} {α β : Type} {f : α → β → Sem (ForInStep β)} {Q : β → Shared → Prop} (l : List α) (Iv : Nat → β → Shared → Prop)
    (step : ∀ k a b s, l[k]? = some a → Iv k b s → wpAny M A (f a b) (fun r s' => ∃ b', r = .yield b' ∧ Iv (k + 1) b' s') E s) (fin : ∀ b s, Iv l.length b s → Q b s) :
    ∀ (m k : Nat) (b : β) (s : Shared), m = l.length - k → k ≤ l.length → Iv k b s → wpAny M A (forIn (l.drop k) b f) Q E s
  | 0, k, b, s, hm, hk, h => by
    have e : k = l.length := by omega
    subst e
    rw [List.drop_eq_nil_of_le (Nat.le_refl _)]
    simp only [List.forIn_nil]
    exact wpAny_pure (fin _ _ h)
  | m + 1, k, b, s, hm, hk, h => by
    have hl : k < l.length := by omega
    rw [List.drop_eq_getElem_cons hl]
    simp only [List.forIn_cons]
    refine wpAny_bind (wpAny_mono (step k _ b s (List.getElem?_eq_getElem hl) h) (fun r s' q => ?_) fun _ _ x => x)
    obtain ⟨b', rfl, h'⟩ := q
    exact forIn_keep l Iv step fin m (k + 1) b' s' (by omega) (by omega) h'
abbrev IsZipR (h : Heap) (z TI TO : Addr) (f0 : Value) (f1 : Bool) : Prop :=
  h.get? z = some { cls := .type "zip", dict := none, data := .fields #[f0, .bool f1, .bool false, .ref TI, .ref TO], slots := #[] }
abbrev IsTupA (h : Heap) (T : Addr) (vs : Array Value) : Prop := h.get? T = some { cls := .type "tuple", data := .seq vs }
theorem cls_ne {h : Heap} {a : Addr} {o p : Obj} (h1 : h.get? a = some o) (h2 : h.get? a = some p) (n : o.cls ≠ p.cls) : False := by
  rw [h1] at h2
  cases h2
  exact n rfl
def Held (f0 : Value) : Prop := f0 = .none ∨ ∃ T : Nat, f0 = rawInt T
section
variable {prog : Program} {w : World} {A : Around} {E : Value → Shared → Prop} {s : Shared} {z TI TO : Addr} {f0 : Value} {f1 : Bool}
theorem isFree {Q : Bool → Shared → Prop} (hz : IsZipR s.heap z TI TO f0 f1) (hf : Held f0) (hT : Q true s) (hF : ∀ h', IsZipR h' z TI TO f0 true → Heap.SameBut z s.heap h' → Q false { s with heap := h' }) : wpAny (model prog w) A (Builtin.SmallTypes.ownedTupleIsFree (.ref z)) Q E s := by
  unfold Builtin.SmallTypes.ownedTupleIsFree
  rcases hf with rfl | ⟨T, rfl⟩
  · exact wpAny_bind (wpAny_field hz rfl (x := .none) rfl (wpAny_pure hT))
  · refine wpAny_bind (wpAny_field hz rfl (x := rawInt T) rfl ?_)
    show wpAny _ _ (loadIfAlive ((T : Int).toNat) >>= _) _ _ _
    rw [Int.toNat_natCast]
    refine wpAny_bind (m := loadIfAlive T) (fun _ _ _ => ?_)
    show (fun o s' => wpAny (model prog w) A _ Q E s') (s.heap.get? T) s
    cases e : s.heap.get? T with
    | none => exact wpAny_pure hT
    | some oT =>
      simp only [Option.isNone_some, Bool.false_eq_true, if_false]
      refine wpAny_bind (wpAny_field hz rfl (x := .bool f1) rfl ?_)
      cases f1 with
      | true =>
        rw [if_neg (show ¬ ((Value.bool true != Value.bool true) = true) from Bool.false_ne_true)]
        exact wpAny_pure (hF s.heap hz (Heap.SameBut.refl _ _))
      | false =>
        rw [if_pos (show (Value.bool false != Value.bool true) = true from rfl)]
        exact wpAny_bind (wpAny_setField_rec hz (by simp) fun h₁ hz₁ hs₁ => wpAny_pure (hF h₁ hz₁ hs₁))
theorem next_item {is ls : List Addr} {vs : List Value} {i : Nat} {Q : Value → Shared → Prop} (hz : IsZipR s.heap z TI TO f0 f1) (hf : Held f0) (hTI : IsTupA s.heap TI (is.map Value.ref).toArray) (hTO : ∃ arr, IsTupA s.heap TO arr ∧ arr.size = is.length)
    (hne : is ≠ []) (nd : is.Nodup) (hTT : TI ≠ TO) (hl : ls.length = is.length) (hv : vs.length = is.length) (hsz : is.length ≤ 1000)
    (hit : ∀ (k : Nat) (a : Addr), is[k]? = some a → ∃ l xs x, ls[k]? = some l ∧ vs[k]? = some x ∧ s.heap.IsListIter a l i ∧ s.heap.IsList l xs ∧ xs[i]? = some x)
    (hQ : ∀ h' f0' f1', IsZipR h' z TI TO f0' f1' → Held f0' → IsTupA h' TI (is.map Value.ref).toArray → (∃ arr, IsTupA h' TO arr ∧ arr.size = is.length) → (∀ (k : Nat) (a l : Addr), is[k]? = some a → ls[k]? = some l → h'.IsListIter a l (i + 1)) →
      IsTupA h' s.heap.objs.size vs.toArray → (∀ c o, c ≠ z → c ≠ TO → c ∉ is → s.heap.get? c = some o → h'.get? c = some o) → Q (.ref s.heap.objs.size) { s with heap := h' }) :
    wpAny (model prog w) A (Builtin.«zip.__next__» ⟨[.ref z], []⟩) (fun fin s' => ∃ v, fin = .done (.ret v) ∧ Q v s') E s := by
  show wpAny _ _ (field (.ref z) 2 >>= _) _ _ _
  refine wpAny_bind (wpAny_field hz rfl (x := .bool false) rfl ?_)
  show wpAny _ _ (field (.ref z) 3 >>= _) _ _ _
  refine wpAny_bind (wpAny_field hz rfl (x := .ref TI) rfl ?_)
  refine wpAny_bind (wpAny_seqItems hTI rfl ?_)
  dsimp only
  rw [if_neg (by cases is with
    | nil => exact absurd rfl hne
    | cons a r => simp)]
  refine wpAny_bind (isFree hz hf ?_ fun h₁ hz₁ hs₁ => ?_)
  · simp only [if_true]
    refine wpAny_bind (wpAny_rule ?_)
    refine wpAny_bind (wpAny_field hz rfl (x := .ref TO) rfl ?_)
    refine wpAny_bind (wpAny_setField_rec hz (by simp) fun h₁ hz₁ hs₁ => ?_)
    replace hz₁ : IsZipR h₁ z TI TO .ellipsis f1 := hz₁
    refine wpAny_bind ?_
    obtain ⟨arr0, hTO0, harr0⟩ := hTO
    have hTOz : TO ≠ z := fun w => by rw [w] at hTO0; exact cls_ne hTO0 hz (by simp)
    have zi : ∀ a ∈ is, a ≠ z := fun a ha w => by
      obtain ⟨k, hk⟩ := List.getElem?_of_mem ha
      obtain ⟨l, xs, x, _, _, ⟨o, ho, hc, _⟩, _⟩ := hit k a hk
      rw [w] at ho
      exact cls_ne ho hz (by rw [hc]; simp)
    have ti : ∀ a ∈ is, a ≠ TO := fun a ha w => by
      obtain ⟨k, hk⟩ := List.getElem?_of_mem ha
      obtain ⟨l, xs, x, _, _, ⟨o, ho, hc, _⟩, _⟩ := hit k a hk
      rw [w] at ho
      exact cls_ne ho hTO0 (by rw [hc]; simp)
    refine forIn_keep (List.map Value.ref is).zipIdx (fun k b s' => b = (none, ()) ∧ IsZipR s'.heap z TI TO .ellipsis f1 ∧ (∃ arr, IsTupA s'.heap TO arr ∧ arr.size = is.length ∧ ∀ j, j < k → arr[j]? = vs[j]?) ∧
      (∀ c o, c ≠ z → c ≠ TO → c ∉ is → s.heap.get? c = some o → s'.heap.get? c = some o) ∧ (∀ (j : Nat) (a l : Addr), is[j]? = some a → ls[j]? = some l → s'.heap.IsListIter a l (if j < k then i + 1 else i)) ∧ s'.heap.objs.size = s.heap.objs.size ∧ s' = { s with heap := s'.heap })
      (fun k x b s' hx h => ?_) (fun b s' h => ?_) _ 0 _ _ rfl (Nat.zero_le _) ⟨rfl, hz₁, ⟨arr0, hs₁.extBut _ _ hTOz hTO0, harr0, fun j hj => absurd hj (Nat.not_lt_zero _)⟩, fun c o c1 c2 c3 e => hs₁.extBut _ _ c1 e, fun j a l hj hl' => ?_, hs₁.1, rfl⟩
    · obtain ⟨rfl, z2, ⟨arr, hT, har, hvj⟩, kp, its, sz, es⟩ := h
      rw [es]
      generalize s'.heap = g at z2 hT kp its sz es
      clear es
      obtain ⟨a, ha, rfl⟩ : ∃ a, is[k]? = some a ∧ x = (Value.ref a, k) := by
        rw [List.getElem?_zipIdx, List.getElem?_map] at hx
        cases e : is[k]? with
        | none => rw [e] at hx; cases hx
        | some a =>
          rw [e] at hx
          refine ⟨a, rfl, ?_⟩
          simp at hx
          exact hx.symm
      have hk : k < is.length := (List.getElem?_eq_some_iff.mp ha).1
      have am := List.mem_of_getElem? ha
      obtain ⟨l, xs, y, hlk, hvk, it0, hli, hy⟩ := hit k a ha
      have itk := its k a l ha hlk
      rw [if_neg (Nat.lt_irrefl _)] at itk
      have lz : l ≠ z ∧ l ≠ TO ∧ l ∉ is := by
        obtain ⟨ol, hol, hcl, _⟩ := hli
        refine ⟨fun w => ?_, fun w => ?_, fun w => ?_⟩
        · rw [w] at hol; exact cls_ne hol hz (by rw [hcl]; simp)
        · rw [w] at hol; exact cls_ne hol hTO0 (by rw [hcl]; simp)
        · obtain ⟨k2, hk2⟩ := List.getElem?_of_mem w
          obtain ⟨_, _, _, _, _, ⟨o, ho, hc, _⟩, _⟩ := hit k2 l hk2
          exact cls_ne hol ho (by rw [hcl, hc]; simp)
      have hli2 : g.IsList l xs := hli.at fun o e => kp _ o lz.1 lz.2.1 lz.2.2 e
      refine wpAny_bind (wpAny_onRaise ?_)
      show wpAny _ _ (Builtin.SmallTypes.nextOf (.ref a) >>= _) _ _ _
      refine wpAny_bind (wpAny_nextOf_list_item (s := { s with heap := g }) itk hli2 hy fun h2 it2 hs2 => wpAny_pure ?_)
      dsimp only
      have hT2 : IsTupA h2 TO arr := hs2.extBut _ _ (ti a am).symm hT
      refine wpAny_bind (wpAny_seqItems (s := { s with heap := h2 }) hT2 rfl ?_)
      dsimp only
      have asz : arr.size ≤ 1000 := by rw [har]; exact hsz
      have big : 1000 ≤ sizeLine := by decide
      refine wpAny_bind (wpAny_updateSeq (s := { s with heap := h2 }) hT2 rfl ?_ (Nat.le_trans asz big) (by rw [Array.size_setIfInBounds]; omega))
      refine wpAny_bind (wpAny_letGo (wpAny_pure ?_))
      have hs3 : Heap.SameBut TO h2 (h2.update TO (Obj.mapSeq fun x_2 => x_2.setIfInBounds k y)) := Heap.SameBut.update ..
      have hT3 : IsTupA (h2.update TO (Obj.mapSeq fun x_2 => x_2.setIfInBounds k y)) TO (arr.setIfInBounds k y) := by
        show Heap.get? _ _ = _
        rw [Heap.get?_update_self _ hT2 rfl]
        simp [Obj.mapSeq]
      refine ⟨_, rfl, rfl, hs3.extBut _ _ hTOz.symm (hs2.extBut _ _ (zi a am).symm z2), ⟨_, hT3, by rw [Array.size_setIfInBounds]; exact har, fun j hj => ?_⟩, fun c o c1 c2 c3 e => hs3.extBut _ _ c2 (hs2.extBut _ _ (fun w => c3 (w ▸ am)) (kp c o c1 c2 c3 e)), fun j a' l' hj hl' => ?_, by rw [hs3.1, hs2.1]; exact sz, rfl⟩
      · rw [Array.getElem?_setIfInBounds]
        by_cases e : k = j
        · subst e
          rw [if_pos rfl, if_pos (by rw [har]; exact hk), hvk]
        · rw [if_neg e]
          exact hvj j (by omega)
      · by_cases e : j = k
        · subst e
          rw [ha] at hj
          cases hj
          rw [hlk] at hl'
          cases hl'
          rw [if_pos (Nat.lt_succ_self _)]
          exact it2.extBut hs3.extBut (ti _ am)
        · have na : a' ≠ a := fun w => by
            subst w
            exact e ((List.getElem?_inj (List.getElem?_eq_some_iff.mp hj).1 nd).mp (hj.trans ha.symm))
          have := its j a' l' hj hl'
          have e2 : (j < k + 1) = (j < k) := by simp; omega
          simp only [e2]
          exact (this.extBut hs2.extBut na).extBut hs3.extBut (ti _ (List.mem_of_getElem? hj))
    · obtain ⟨rfl, z2, ⟨arr, hT, har, hvj⟩, kp, its, sz, es⟩ := h
      rw [es]
      generalize s'.heap = g at z2 hT kp its sz es
      clear es
      have ea : arr = vs.toArray := by
        refine Array.ext (by rw [har, List.size_toArray, hv]) fun j h1 h2 => ?_
        have := hvj j (by rw [List.length_zipIdx, List.length_map, ← har]; exact h1)
        rw [Array.getElem?_eq_getElem h1, List.getElem?_eq_getElem (by simpa using h2)] at this
        simpa using this
      subst ea
      dsimp only
      refine wpAny_bind (wpAny_seqItems (s := { s with heap := g }) hT rfl ?_)
      dsimp only
      refine wpAny_bind (wpAny_newTuple ?_ (by show vs.length ≤ sizeLine; rw [hv]; exact Nat.le_trans hsz (by decide)))
      have z6 : IsZipR (g.push { cls := .type "tuple", data := .seq vs.toArray.toList.toArray }) z TI TO .ellipsis f1 := Heap.get?_push_of_some _ z2
      show wpAny _ _ (Builtin.SmallTypes.ownedTupleHandOut (.ref z) (.ref g.objs.size) >>= _) _ _ _
      refine wpAny_bind ?_
      unfold Builtin.SmallTypes.ownedTupleHandOut
      refine wpAny_bind (wpAny_setField_rec z6 (by simp) fun h₇ hz₇ hs₇ => ?_)
      replace hz₇ : IsZipR h₇ z TI TO (rawInt g.objs.size) f1 := hz₇
      refine wpAny_setField_rec hz₇ (by simp) fun h₈ hz₈ hs₈ => ?_
      replace hz₈ : IsZipR h₈ z TI TO (rawInt g.objs.size) false := hz₈
      have up : ∀ c o, c ≠ z → g.get? c = some o → h₈.get? c = some o := fun c o c1 e => hs₈.extBut _ _ c1 (hs₇.extBut _ _ c1 (Heap.get?_push_of_some _ e))
      have zlt : z < g.objs.size := Heap.lt_size z2
      have hT₈ : IsTupA h₈ g.objs.size vs.toArray := hs₈.extBut _ _ (Nat.ne_of_gt zlt) (hs₇.extBut _ _ (Nat.ne_of_gt zlt) (Heap.get?_push_size _ rfl))
      rw [sz] at hz₈ hT₈
      refine wpAny_pure ⟨_, rfl, ?_⟩
      show Q (.ref g.objs.size) _
      rw [sz]
      have TIz : TI ≠ z := fun w => by rw [w] at hTI; exact cls_ne hTI hz (by simp)
      have TIi : TI ∉ is := fun w => by
        obtain ⟨k2, hk2⟩ := List.getElem?_of_mem w
        obtain ⟨_, _, _, _, _, ⟨o, ho, hc, _⟩, _⟩ := hit k2 TI hk2
        exact cls_ne hTI ho (by rw [hc]; simp)
      refine hQ h₈ _ _ hz₈ (.inr ⟨_, rfl⟩) (up _ _ TIz (kp _ _ TIz hTT TIi hTI)) ⟨_, up _ _ hTOz hT, har⟩ (fun j a l hj hl' => ?_) hT₈ fun c o c1 c2 c3 e => up c o c1 (kp c o c1 c2 c3 e)
      have := its j a l hj hl'
      rw [if_pos (by rw [List.length_zipIdx, List.length_map]; exact (List.getElem?_eq_some_iff.mp hj).1)] at this
      exact this.at fun o e => up _ o (zi a (List.mem_of_getElem? hj)) e
    · rw [if_neg (Nat.not_lt_zero _)]
      obtain ⟨l2, _, _, hl2, _, it0, _⟩ := hit j a hj
      rw [hl2] at hl'
      cases hl'
      exact it0.extBut hs₁.extBut (zi a (List.mem_of_getElem? hj))
  · simp only [Bool.false_eq_true, if_false]
    refine wpAny_bind ?_
    rw [← Array.forIn_toList]
    obtain ⟨arr0, hTO0, harr0⟩ := hTO
    have hTOz : TO ≠ z := fun w => by rw [w] at hTO0; exact cls_ne hTO0 hz (by simp)
    have zi : ∀ a ∈ is, a ≠ z := fun a ha w => by
      obtain ⟨k, hk⟩ := List.getElem?_of_mem ha
      obtain ⟨l, xs, x, _, _, ⟨o, ho, hc, _⟩, _⟩ := hit k a hk
      rw [w] at ho
      exact cls_ne ho hz (by rw [hc]; simp)
    refine forIn_keep (List.map Value.ref is).toArray.toList (fun k b s' => b = (none, (vs.take k).toArray) ∧ IsZipR s'.heap z TI TO f0 true ∧
      (∀ c o, c ≠ z → c ∉ is → s.heap.get? c = some o → s'.heap.get? c = some o) ∧ (∀ (j : Nat) (a l : Addr), is[j]? = some a → ls[j]? = some l → s'.heap.IsListIter a l (if j < k then i + 1 else i)) ∧ s'.heap.objs.size = s.heap.objs.size ∧ s' = { s with heap := s'.heap })
      (fun k x b s' hx h => ?_) (fun b s' h => ?_) _ 0 _ _ rfl (Nat.zero_le _) ⟨rfl, hz₁, fun c o c1 c3 e => hs₁.extBut _ _ c1 e, fun j a l hj hl' => ?_, hs₁.1, rfl⟩
    · obtain ⟨rfl, z2, kp, its, sz, es⟩ := h
      rw [es]
      generalize s'.heap = g at z2 kp its sz es
      clear es
      obtain ⟨a, ha, rfl⟩ : ∃ a, is[k]? = some a ∧ x = Value.ref a := by
        simp only [List.getElem?_map] at hx
        cases e : is[k]? with
        | none => rw [e] at hx; cases hx
        | some a =>
          rw [e] at hx
          refine ⟨a, rfl, ?_⟩
          simp at hx
          exact hx.symm
      have hk : k < is.length := (List.getElem?_eq_some_iff.mp ha).1
      have am := List.mem_of_getElem? ha
      obtain ⟨l, xs, y, hlk, hvk, it0, hli, hy⟩ := hit k a ha
      have itk := its k a l ha hlk
      rw [if_neg (Nat.lt_irrefl _)] at itk
      have lz : l ≠ z ∧ l ∉ is := by
        obtain ⟨ol, hol, hcl, _⟩ := hli
        refine ⟨fun w => ?_, fun w => ?_⟩
        · rw [w] at hol; exact cls_ne hol hz (by rw [hcl]; simp)
        · obtain ⟨k2, hk2⟩ := List.getElem?_of_mem w
          obtain ⟨_, _, _, _, _, ⟨o, ho, hc, _⟩, _⟩ := hit k2 l hk2
          exact cls_ne hol ho (by rw [hcl, hc]; simp)
      have hli2 : g.IsList l xs := hli.at fun o e => kp _ o lz.1 lz.2 e
      refine wpAny_bind (wpAny_holding ?_)
      show wpAny _ _ (Builtin.SmallTypes.nextOf (.ref a) >>= _) _ _ _
      refine wpAny_bind (wpAny_nextOf_list_item (s := { s with heap := g }) itk hli2 hy fun h2 it2 hs2 => wpAny_pure ?_)
      refine wpAny_pure ?_
      refine ⟨_, rfl, ?_, hs2.extBut _ _ (zi a am).symm z2, fun c o c1 c3 e => hs2.extBut _ _ (fun w => c3 (w ▸ am)) (kp c o c1 c3 e), fun j a' l' hj hl' => ?_, by rw [hs2.1]; exact sz, rfl⟩
      · rw [List.take_add_one, hvk]
        simp
      · by_cases e : j = k
        · subst e
          rw [ha] at hj
          cases hj
          rw [hlk] at hl'
          cases hl'
          rw [if_pos (Nat.lt_succ_self _)]
          exact it2
        · have na : a' ≠ a := fun w => by
            subst w
            exact e ((List.getElem?_inj (List.getElem?_eq_some_iff.mp hj).1 nd).mp (hj.trans ha.symm))
          have := its j a' l' hj hl'
          have e2 : (j < k + 1) = (j < k) := by simp; omega
          simp only [e2]
          exact this.extBut hs2.extBut na
    · obtain ⟨rfl, z2, kp, its, sz, es⟩ := h
      rw [es]
      generalize s'.heap = g at z2 kp its sz es
      clear es
      dsimp only
      have e0 : vs.take (List.map Value.ref is).toArray.toList.length = vs := List.take_of_length_le (by simp; omega)
      rw [e0]
      refine wpAny_bind (wpAny_newTuple ?_ (by show vs.length ≤ sizeLine; rw [hv]; exact Nat.le_trans hsz (by decide)))
      refine wpAny_pure ⟨_, rfl, ?_⟩
      show Q (.ref g.objs.size) _
      have up : ∀ c o, g.get? c = some o → (g.push { cls := .type "tuple", data := .seq vs.toArray.toList.toArray }).get? c = some o := fun c o e => Heap.get?_push_of_some _ e
      have hT8 : IsTupA (g.push { cls := .type "tuple", data := .seq vs.toArray.toList.toArray }) g.objs.size vs.toArray := Heap.get?_push_size _ rfl
      have TIz : TI ≠ z := fun w => by rw [w] at hTI; exact cls_ne hTI hz (by simp)
      have TIi : TI ∉ is := fun w => by
        obtain ⟨k2, hk2⟩ := List.getElem?_of_mem w
        obtain ⟨_, _, _, _, _, ⟨o, ho, hc, _⟩, _⟩ := hit k2 TI hk2
        exact cls_ne hTI ho (by rw [hc]; simp)
      have TOi : TO ∉ is := fun w => by
        obtain ⟨k2, hk2⟩ := List.getElem?_of_mem w
        obtain ⟨_, _, _, _, _, ⟨o, ho, hc, _⟩, _⟩ := hit k2 TO hk2
        exact cls_ne hTO0 ho (by rw [hc]; simp)
      have hTI2 := up _ _ (kp _ _ TIz TIi hTI)
      have hTO2 := up _ _ (kp _ _ hTOz TOi hTO0)
      rw [sz] at hT8 ⊢
      refine hQ _ _ _ (up _ _ z2) hf hTI2 ⟨_, hTO2, harr0⟩ (fun j a l hj hl' => ?_) hT8 fun c o c1 c2 c3 e => up c o (kp c o c1 c3 e)
      have := its j a l hj hl'
      rw [if_pos (by simp only [Array.length_toList, List.size_toArray, List.length_map]; exact (List.getElem?_eq_some_iff.mp hj).1)] at this
      exact this.at fun o e => up _ o e
    · rw [if_neg (Nat.not_lt_zero _)]
      obtain ⟨l2, _, _, hl2, _, it0, _⟩ := hit j a hj
      rw [hl2] at hl'
      cases hl'
      exact it0.extBut hs₁.extBut (zi a (List.mem_of_getElem? hj))
/-- the first list is at its end: so is the zip -/
theorem next_end {is : List Addr} {a0 l0 : Addr} {xs0 : Array Value} {i : Nat} {Q : Fin → Shared → Prop} (hh : A.handled = none) (hz : IsZipR s.heap z TI TO f0 f1) (hf : Held f0) (hTI : IsTupA s.heap TI ((a0 :: is).map Value.ref).toArray) (hTO : ∃ arr, IsTupA s.heap TO arr ∧ arr.size = (a0 :: is).length)
    (h0 : s.heap.IsListIter a0 l0 i) (hl0 : s.heap.IsList l0 xs0) (hx : xs0[i]? = none)
    (hE : ∀ h' e, (∀ c o, c ≠ z → c ≠ a0 → s.heap.get? c = some o → h'.get? c = some o) → (∃ o, h'.get? e = some o ∧ o.cls = .type "StopIteration") → E (.ref e) { s with heap := h' }) :
    wpAny (model prog w) A (Builtin.«zip.__next__» ⟨[.ref z], []⟩) Q E s := by
  have az : a0 ≠ z := fun w => by
    obtain ⟨o, ho, hc, _⟩ := h0
    rw [w] at ho
    exact cls_ne ho hz (by rw [hc]; simp)
  have lz : l0 ≠ z := fun w => by
    obtain ⟨o, ho, hc, _⟩ := hl0
    rw [w] at ho
    exact cls_ne ho hz (by rw [hc]; simp)
  show wpAny _ _ (field (.ref z) 2 >>= _) _ _ _
  refine wpAny_bind (wpAny_field hz rfl (x := .bool false) rfl ?_)
  show wpAny _ _ (field (.ref z) 3 >>= _) _ _ _
  refine wpAny_bind (wpAny_field hz rfl (x := .ref TI) rfl ?_)
  refine wpAny_bind (wpAny_seqItems hTI rfl ?_)
  dsimp only
  rw [if_neg (by simp)]
  refine wpAny_bind (isFree hz hf ?_ fun h₁ hz₁ hs₁ => ?_)
  · simp only [if_true]
    refine wpAny_bind (wpAny_rule ?_)
    refine wpAny_bind (wpAny_field hz rfl (x := .ref TO) rfl ?_)
    refine wpAny_bind (wpAny_setField_rec hz (by simp) fun h₁ hz₁ hs₁ => ?_)
    replace hz₁ : IsZipR h₁ z TI TO .ellipsis f1 := hz₁
    refine wpAny_bind ?_
    simp only [List.map_cons, List.zipIdx_cons, List.forIn_cons]
    refine wpAny_bind (wpAny_bind (wpAny_onRaise ?_))
    show wpAny _ _ (Builtin.SmallTypes.nextOf (.ref a0) >>= _) _ _ _
    refine wpAny_bind (wpAny_nextOf_list_end hh (h0.extBut hs₁.extBut az) (hl0.extBut hs₁.extBut lz) hx fun h₂ e hs₂ he => ?_)
    obtain ⟨oe, hoe, hce⟩ := he
    have hz₂ : IsZipR h₂ z TI TO .ellipsis f1 := hs₂ _ _ az.symm hz₁
    have hez : e ≠ z := fun x => by subst x; rw [hz₂] at hoe; cases hoe; simp at hce
    exact wpAny_setField_rec hz₂ (by simp) fun h₃ _ hs₃ => hE h₃ e (fun c o c1 c3 x => hs₃.extBut _ _ c1 (hs₂ _ _ c3 (hs₁.extBut _ _ c1 x))) ⟨oe, hs₃.extBut _ _ hez hoe, hce⟩
  · simp only [Bool.false_eq_true, if_false]
    refine wpAny_bind ?_
    rw [← Array.forIn_toList]
    simp only [List.map_cons, List.forIn_cons]
    refine wpAny_bind (wpAny_bind (wpAny_holding ?_))
    show wpAny _ _ (Builtin.SmallTypes.nextOf (.ref a0) >>= _) _ _ _
    refine wpAny_bind (wpAny_nextOf_list_end (s := { s with heap := h₁ }) hh (h0.extBut hs₁.extBut az) (hl0.extBut hs₁.extBut lz) hx fun h₂ e hs₂ he => ?_)
    exact hE h₂ e (fun c o c1 c2 x => hs₂ _ _ c2 (hs₁.extBut _ _ c1 x)) he
/-- zip.__new__ : the iterators, side by side -/
theorem iter_all : ∀ (vs : List Value) (ls : List Addr) (acc : Array Value) (s : Shared) {Q : Array Value → Shared → Prop}, vs = ls.map Value.ref → (∀ l ∈ ls, ∃ xs, s.heap.IsList l xs) →
    (∀ h', (∀ c o, s.heap.get? c = some o → h'.get? c = some o) → h'.objs.size = s.heap.objs.size + ls.length → (∀ (k : Nat) l, ls[k]? = some l → h'.IsListIter (s.heap.objs.size + k) l 0) → Q (acc ++ ((List.range ls.length).map fun k => Value.ref (s.heap.objs.size + k)).toArray) { s with heap := h' }) →
    wpAny (model prog w) A (forIn vs acc fun x r => do
      let y ← holding r.toList (pyIter x)
      pure (ForInStep.yield (r.push y))) Q E s
  | _, [], acc, s, Q, rfl, _, q => by
    simp only [List.map_nil, List.forIn_nil]
    refine wpAny_pure ?_
    have := q s.heap (fun _ _ e => e) rfl (fun k l h => by simp at h)
    simpa using this
  | _, l :: ls, acc, s, Q, rfl, hl, q => by
    simp only [List.map_cons, List.forIn_cons]
    obtain ⟨xs, hx⟩ := hl l List.mem_cons_self
    refine wpAny_bind (wpAny_bind (wpAny_holding (wpAny_pyIter_list hx (wpAny_pure ?_))))
    have n0 : (s.heap.push { cls := .type "list_iterator", data := .fields #[.ref l, .int 0 0] }).objs.size = s.heap.objs.size + 1 := Heap.size_push ..
    refine iter_all _ ls _ { s with heap := s.heap.push { cls := .type "list_iterator", data := .fields #[.ref l, .int 0 0] } } rfl (fun l2 h2 => ?_) fun h' kp sz its => ?_
    · obtain ⟨ys, hy⟩ := hl l2 (List.mem_cons_of_mem _ h2)
      exact ⟨ys, hy.push _⟩
    · have kp2 : ∀ c o, s.heap.get? c = some o → h'.get? c = some o := fun c o e => kp c o (Heap.get?_push_of_some _ e)
      simp only [n0] at sz its
      have e := q h' kp2 (by rw [sz, List.length_cons]; omega) (fun k l2 h2 => by
        cases k with
        | zero =>
          cases h2
          exact ⟨_, kp _ _ (Heap.get?_push_size _ rfl), rfl, rfl⟩
        | succ k =>
          have := its k l2 h2
          rwa [Nat.add_assoc, Nat.add_comm 1 k] at this)
      have ea : (acc.push (Value.ref s.heap.objs.size)) ++ ((List.range ls.length).map fun k => Value.ref (s.heap.objs.size + 1 + k)).toArray = acc ++ ((List.range (l :: ls).length).map fun k => Value.ref (s.heap.objs.size + k)).toArray := by
        rw [List.length_cons, List.range_succ_eq_map, List.map_cons, List.map_map]
        apply Array.ext'
        simp
        intro k hk
        exact (Nat.add_assoc _ _ _).trans (by rw [Nat.add_comm 1 k])
      show Q (_ ++ ((List.range ls.length).map fun k => Value.ref ((s.heap.push { cls := .type "list_iterator", data := .fields #[.ref l, .int 0 0] }).objs.size + k)).toArray) _
      rw [n0, ea]
      exact e
end
theorem meets_zip_any (ls : List Addr) (hn : ls.length ≤ 1000) :
    Meets (Builtin.«zip.__new__» ⟨.type "zip" :: ls.map Value.ref, []⟩) (fun _ R s => (∀ l ∈ ls, ∃ xs, s.heap.IsList l xs) ∧
      ∀ h' z TI TO, IsZipR h' z TI TO .none false → IsTupA h' TI ((List.range ls.length).map fun k => Value.ref (s.heap.objs.size + k)).toArray → (∃ arr, IsTupA h' TO arr ∧ arr.size = ls.length) → TI ≠ TO → s.heap.objs.size ≤ z → s.heap.objs.size ≤ TI → s.heap.objs.size ≤ TO →
        (∀ (k : Nat) l, ls[k]? = some l → h'.IsListIter (s.heap.objs.size + k) l 0) → (∀ c o, s.heap.get? c = some o → h'.get? c = some o) → R (.ok (.ret (.ref z))) { s with heap := h' }) :=
  .of_wp fun prog w A R s h => by
    obtain ⟨hp, g, d, tk, os⟩ := s; obtain ⟨hl, h⟩ := h
    have hsub := sub_zip
    have hnc : Builtin.SmallTypes.newClass "zip" ⟨.type "zip" :: ls.map Value.ref, []⟩ = pure (.type "zip", ls.map Value.ref) := by
      unfold Builtin.SmallTypes.newClass
      simp only [isType, sub_zip, pure_bind, Bool.not_true, Bool.false_eq_true, if_false]
    unfold Builtin.«zip.__new__»
    rw [hnc]
    refine wpAny_bind (wpAny_pure ?_)
    show wpAny _ _ (Builtin.SmallTypes.iterAll (ls.map Value.ref) >>= _) _ _ _
    refine wpAny_bind ?_
    unfold Builtin.SmallTypes.iterAll
    refine wpAny_bind ?_
    refine iter_all _ ls _ _ rfl hl fun h1 kp1 sz1 it1 => wpAny_pure ?_
    have e0 : (#[] ++ ((List.range ls.length).map fun k => Value.ref (hp.objs.size + k)).toArray : Array Value).toList = (List.range ls.length).map fun k => Value.ref (hp.objs.size + k) := by simp
    show wpAny _ _ (newTuple (#[] ++ ((List.range ls.length).map fun k => Value.ref (hp.objs.size + k)).toArray : Array Value).toList >>= fun a => newTuple (List.map (fun _ => Value.none) (#[] ++ ((List.range ls.length).map fun k => Value.ref (hp.objs.size + k)).toArray : Array Value).toList) >>= fun b => _) _ _ _
    rw [e0]
    have big : 1000 ≤ sizeLine := by decide
    refine wpAny_bind (wpAny_newTuple ?_ (by rw [List.length_map, List.length_range]; omega))
    refine wpAny_bind (wpAny_newTuple ?_ (by rw [List.length_map, List.length_map, List.length_range]; omega))
    refine wpAny_bind ?_
    unfold Builtin.SmallTypes.newRecord Builtin.SmallTypes.ownedTupleFields
    dsimp only
    refine wpAny_newObj_type (wpAny_pure ⟨_, rfl, ?_⟩)
    dsimp only
    generalize ho1 : ({ cls := .type "tuple", data := .seq ((List.range ls.length).map fun k => Value.ref (hp.objs.size + k)).toArray } : Obj) = o1
    generalize ho2 : ({ cls := .type "tuple", data := .seq (((List.range ls.length).map fun k => Value.ref (hp.objs.size + k)).map fun _ => Value.none).toArray } : Obj) = o2
    have f1 : o1.isFreed = false := by rw [← ho1]; rfl
    have f2 : o2.isFreed = false := by rw [← ho2]; rfl
    have n1 : (h1.push o1).objs.size = h1.objs.size + 1 := Heap.size_push ..
    have n2 : ((h1.push o1).push o2).objs.size = h1.objs.size + 2 := by rw [Heap.size_push, n1]
    have le1 : hp.objs.size ≤ h1.objs.size := by rw [sz1]; exact Nat.le_add_right _ _
    have up : ∀ (o3 : Obj) c o, h1.get? c = some o → (((h1.push o1).push o2).push o3).get? c = some o := fun o3 c o e => Heap.get?_push_of_some _ (Heap.get?_push_of_some _ (Heap.get?_push_of_some _ e))
    refine h _ _ h1.objs.size (h1.push o1).objs.size ?_ ?_ ⟨(((List.range ls.length).map fun k => Value.ref (hp.objs.size + k)).map fun _ => Value.none).toArray, ?_, ?_⟩ ?_ ?_ le1 ?_ (fun k l hk => (it1 k l hk).at fun o e => up _ _ o e) fun c o e => up _ c o (kp1 c o e)
    · exact Heap.get?_push_size _ rfl
    · rw [← ho1]
      exact Heap.get?_push_of_some _ (Heap.get?_push_of_some _ (Heap.get?_push_size _ rfl))
    · rw [← ho2]
      exact Heap.get?_push_of_some _ (Heap.get?_push_size _ rfl)
    · simp
    · rw [n1]
      exact Nat.ne_of_lt (Nat.lt_succ_self _)
    · rw [n2]
      exact Nat.le_trans le1 (Nat.le_add_right _ _)
    · rw [n1]
      exact Nat.le_trans le1 (Nat.le_add_right _ _)
section
variable {prog : Program} {w : World} {A : Around} {E : Value → Shared → Prop} {s : Shared}
theorem call_zip_any {ls : List Addr} {Q : Value → Shared → Prop} (hn : ls.length ≤ 1000) (hl : ∀ l ∈ ls, ∃ xs, s.heap.IsList l xs)
    (h : ∀ h' z TI TO, IsZipR h' z TI TO .none false → IsTupA h' TI ((List.range ls.length).map fun k => Value.ref (s.heap.objs.size + k)).toArray → (∃ arr, IsTupA h' TO arr ∧ arr.size = ls.length) → TI ≠ TO → s.heap.objs.size ≤ z → s.heap.objs.size ≤ TI → s.heap.objs.size ≤ TO →
        (∀ (k : Nat) l, ls[k]? = some l → h'.IsListIter (s.heap.objs.size + k) l 0) → (∀ c o, s.heap.get? c = some o → h'.get? c = some o) → Q (.ref z) { s with heap := h' }) :
    wpAny (model prog w) A (call (.type "zip") (ls.map Value.ref)) Q E s :=
  callType_new F.called_zip (by decide) (typeCall_any _) (newCall_any _) (fun obj => argsInit_any obj _) F.entry_zip_new
    (meets_zip_any ls hn) ⟨hl, fun h' z TI TO a1 a2 a3 a4 a5 a6 a7 a8 a9 => ⟨⟨_, a1, rfl⟩, h h' z TI TO a1 a2 a3 a4 a5 a6 a7 a8 a9⟩⟩
theorem pyIter_zip {z TI TO : Addr} {f0 : Value} {f1 : Bool} {Q : Value → Shared → Prop} (hz : IsZipR s.heap z TI TO f0 f1) (h : Q (.ref z) s) : wpAny (model prog w) A (pyIter (.ref z)) Q E s := by
  have hT : s.TypeIs (.ref z) "zip" := ⟨_, hz, rfl⟩
  refine wpAny_pyIter_slot hT F.slot_zip_iter (wpAny_call_entry F.slot_zip_iter hT F.entry_zip_iter ?_ (F.args_zip_iter_1 _))
  show wpAny _ _ (ret (.ref z)) _ _ s
  exact wpAny_pure ⟨_, rfl, "zip", _, hT, F.slot_zip_next.lookup, h⟩
theorem pyNext_end {z TI TO : Addr} {f0 : Value} {f1 : Bool} {is : List Addr} {a0 l0 : Addr} {xs0 : Array Value} {i : Nat} {Q : Option Value → Shared → Prop} (hh : A.handled = none) (hz : IsZipR s.heap z TI TO f0 f1) (hf : Held f0) (hTI : IsTupA s.heap TI ((a0 :: is).map Value.ref).toArray) (hTO : ∃ arr, IsTupA s.heap TO arr ∧ arr.size = (a0 :: is).length)
    (h0 : s.heap.IsListIter a0 l0 i) (hl0 : s.heap.IsList l0 xs0) (hx : xs0[i]? = none) (hQ : ∀ h', (∀ c o, c ≠ z → c ≠ a0 → s.heap.get? c = some o → h'.get? c = some o) → Q none { s with heap := h' }) : wpAny (model prog w) A (pyNext (.ref z)) Q E s := by
  have hTy : s.TypeIs (.ref z) "zip" := ⟨_, hz, rfl⟩
  unfold pyNext
  refine wpAny_bind (wpAny_attempt (wpAny_callSpecial?_slot (name := Str.ofString "__next__") hTy F.slot_zip_next
    (wpAny_call_entry F.slot_zip_next hTy F.entry_zip_next (next_end hh hz hf hTI hTO h0 hl0 hx fun h' e hk he => ?_) (F.args_zip_next_1 _))))
  obtain ⟨o, ho, hc⟩ := he
  refine wpAny_bind (wpAny_isInstance (T := "StopIteration") (b := true) ⟨o, ho, hc⟩ isSubtype_stop ?_)
  exact wpAny_pure (hQ _ hk)
theorem pyNext_item {z TI TO : Addr} {f0 : Value} {f1 : Bool} {is ls : List Addr} {vs : List Value} {i : Nat} {Q : Option Value → Shared → Prop} (hz : IsZipR s.heap z TI TO f0 f1) (hf : Held f0) (hTI : IsTupA s.heap TI (is.map Value.ref).toArray) (hTO : ∃ arr, IsTupA s.heap TO arr ∧ arr.size = is.length)
    (hne : is ≠ []) (nd : is.Nodup) (hTT : TI ≠ TO) (hl : ls.length = is.length) (hv : vs.length = is.length) (hsz : is.length ≤ 1000)
    (hit : ∀ (k : Nat) (a : Addr), is[k]? = some a → ∃ l xs x, ls[k]? = some l ∧ vs[k]? = some x ∧ s.heap.IsListIter a l i ∧ s.heap.IsList l xs ∧ xs[i]? = some x)
    (hQ : ∀ h' f0' f1', IsZipR h' z TI TO f0' f1' → Held f0' → IsTupA h' TI (is.map Value.ref).toArray → (∃ arr, IsTupA h' TO arr ∧ arr.size = is.length) → (∀ (k : Nat) (a l : Addr), is[k]? = some a → ls[k]? = some l → h'.IsListIter a l (i + 1)) →
      IsTupA h' s.heap.objs.size vs.toArray → (∀ c o, c ≠ z → c ≠ TO → c ∉ is → s.heap.get? c = some o → h'.get? c = some o) → Q (some (.ref s.heap.objs.size)) { s with heap := h' }) :
    wpAny (model prog w) A (pyNext (.ref z)) Q E s := by
  have hTy : s.TypeIs (.ref z) "zip" := ⟨_, hz, rfl⟩
  unfold pyNext
  exact wpAny_bind (wpAny_attempt (wpAny_callSpecial?_slot (name := Str.ofString "__next__") hTy F.slot_zip_next
    (wpAny_call_entry F.slot_zip_next hTy F.entry_zip_next
      (next_item hz hf hTI hTO hne nd hTT hl hv hsz hit fun h' a b a1 a2 a3 a4 a5 a6 a7 => wpAny_pure (hQ h' a b a1 a2 a3 a4 a5 a6 a7)) (F.args_zip_next_1 _))))
end
/-- the lists as they stand at each turn, the items in new tuples -/
def Itzn (K : PySem.W.Frag) (ls : List Addr) : It :=
  ⟨fun i H => ∃ vs : List V, vs.length = ls.length ∧ ∀ (k : Nat) l, ls[k]? = some l → ∃ xs x, SqL K H l xs ∧ vs[k]? = some x ∧ xs[i]? = some x,
    fun i H v H' => ∃ T vs, v = .ref T ∧ H T = none ∧ H' = upd H T (.tup vs) ∧ vs.length = ls.length ∧ ∀ (k : Nat) l xs, ls[k]? = some l → SqL K H l xs → vs[k]? = xs[i]?,
    fun i H => ∃ (l : Addr) (xs : List V), ls[0]? = some l ∧ SqL K H l xs ∧ xs.length ≤ i⟩
theorem vals_pick : ∀ {n : Nat} (vs : List V) (f : Nat → Value), vs.length = n → (∀ (k : Nat) v, vs[k]? = some v → RelV v (f k)) → Vals vs ((List.range n).map f)
  | 0, [], f, _, _ => .nil
  | n + 1, v :: vs, f, h, q => by
    rw [List.range_succ_eq_map, List.map_cons, List.map_map]
    exact .cons (q 0 v rfl) (vals_pick vs (fun k => f (k + 1)) (by simpa using h) fun k v' hk => q (k + 1) v' hk)
theorem turn_zipn {P : Program} {w : World} {K : PySem.W.Frag} {x : Str} {tpos : Pos} {z TI TO : Addr} {is ls : List Addr} (hne : is ≠ []) (nd : is.Nodup) (hTT : TI ≠ TO) (hl : ls.length = is.length) (hsz : is.length ≤ 1000) :
    Turn P w K (.Name x tpos) (Itzn K ls) (z :: TI :: TO :: is) z (fun i h => (∃ f0 f1, IsZipR h z TI TO f0 f1 ∧ Held f0) ∧ IsTupA h TI (is.map Value.ref).toArray ∧ (∃ arr, IsTupA h TO arr ∧ arr.size = is.length) ∧ ∀ (k : Nat) (a l : Addr), is[k]? = some a → ls[k]? = some l → h.IsListIter a l i) where
  mem := by simp
  obj := fun i h st c hc => by
    obtain ⟨⟨f0, f1, hz, _⟩, hTI, ⟨arr, hTO, _⟩, his⟩ := st
    rcases List.mem_cons.mp hc with q | hc
    · rw [q]; exact ⟨_, hz, fun v q => nomatch q⟩
    rcases List.mem_cons.mp hc with q | hc
    · rw [q]; exact ⟨_, hTI, fun v q => nomatch q⟩
    rcases List.mem_cons.mp hc with q | hc
    · rw [q]; exact ⟨_, hTO, fun v q => nomatch q⟩
    · obtain ⟨k, hk⟩ := List.getElem?_of_mem hc
      have hlt : k < ls.length := by rw [hl]; exact (List.getElem?_eq_some_iff.mp hk).1
      obtain ⟨o, e, _, d⟩ := his k c _ hk (List.getElem?_eq_getElem hlt)
      exact ⟨o, e, fun v q => by rw [d] at q; cases q⟩
  keep := fun i h h' st k => by
    obtain ⟨⟨f0, f1, hz, hf⟩, hTI, ⟨arr, hTO, ha⟩, his⟩ := st
    exact ⟨⟨f0, f1, k z (by simp) _ hz, hf⟩, k TI (by simp) _ hTI, ⟨arr, k TO (by simp) _ hTO, ha⟩, fun j a l h1 h2 => (his j a l h1 h2).at fun o q => k a (by simp [List.mem_of_getElem? h1]) o q⟩
  item := by
    intro X hP hw hK hc i pins s σ H E I hf st hg
    subst hP hw hK
    obtain ⟨⟨f0, f1, hz, hf0⟩, hTI, hTO, his⟩ := st
    obtain ⟨vs, hvl, hvs⟩ := hg
    have hzl : z < s.heap.objs.size := Heap.lt_size hz
    -- the values that come
    have pick : ∀ (k : Nat), ∃ u : Value, ∀ l, ls[k]? = some l → ∃ its, (∃ v, vs[k]? = some v ∧ RelV v u) ∧ s.heap.IsList l its ∧ its[i]? = some u := fun k => by
      cases e : ls[k]? with
      | none => exact ⟨.none, fun l h => by cases h⟩
      | some l =>
        obtain ⟨xs, x, hq, hvk, hx⟩ := hvs k l e
        obtain ⟨its, rv, p, _⟩ := I.list hq
        obtain ⟨u, hu, ru⟩ := rv.get hx
        exact ⟨u, fun l' h => by cases h; exact ⟨its.toArray, ⟨x, hvk, ru⟩, p.isList, by simpa using hu⟩⟩
    let us : Nat → Value := fun k => Classical.choose (pick k)
    have hus : ∀ (k : Nat) l, ls[k]? = some l → ∃ its, (∃ v, vs[k]? = some v ∧ RelV v (us k)) ∧ s.heap.IsList l its ∧ its[i]? = some (us k) := fun k => Classical.choose_spec (pick k)
    have lsk : ∀ {k : Nat} {a : Addr}, is[k]? = some a → ∃ l, ls[k]? = some l := fun {k a} h => ⟨_, List.getElem?_eq_getElem (by rw [hl]; exact (List.getElem?_eq_some_iff.mp h).1)⟩
    refine pyNext_item (i := i) (ls := ls) (vs := (List.range is.length).map us) hz hf0 hTI hTO hne nd hTT hl (by simp) hsz (fun k a hk => ?_) fun h' g0 g1 z' hg0 TI' TO' its' hT hk => ?_
    · obtain ⟨l, hlk⟩ := lsk hk
      obtain ⟨its, _, hli, hy⟩ := hus k l hlk
      exact ⟨l, its, us k, hlk, by rw [List.getElem?_map, List.getElem?_range (List.getElem?_eq_some_iff.mp hk).1]; rfl, his k a l hk hlk, hli, hy⟩
    refine ⟨_, rfl, ?_⟩
    show wpAny _ _ (pure ()) _ _ _
    refine wpAny_pure ?_
    have rvs : Vals vs ((List.range is.length).map us) := vals_pick vs us (by rw [hvl, hl]) fun k v hk => by
      have hlt : k < ls.length := by rw [← hvl]; exact (List.getElem?_eq_some_iff.mp hk).1
      obtain ⟨_, ⟨v', hv', rv⟩, _⟩ := hus k _ (List.getElem?_eq_getElem hlt)
      rw [hk] at hv'
      cases hv'
      exact rv
    have new : ObjOk X.prog X.w (upd H s.heap.objs.size (.tup vs)) h' s.heap.objs.size (.tup vs) :=
      ⟨by rw [hvl, hl]; exact Nat.le_trans hsz (by decide), _, rvs, ⟨_, hT, rfl, _, rfl⟩⟩
    have I1 : Inv X pins σ (upd H s.heap.objs.size (.tup vs)) { s with heap := h' } :=
      I.turnedNew (t' := s.toks) (ch := z :: TI :: TO :: is) (fun c o hb q => hk c o (fun q' => hb (by simp [q'])) (fun q' => hb (by simp [q'])) (fun q' => hb (by simp [q'])) q) hf (Nat.le_refl _) new
    refine ⟨.ref s.heap.objs.size, _, I1, rfl, ⟨_, vs, rfl, I.hok.fresh (Nat.le_refl _), rfl, hvl, fun k l xs hlk hxs => ?_⟩, ⟨⟨g0, g1, z', hg0⟩, TI', TO', its'⟩, fun c hcm => ?_⟩
    · obtain ⟨xs', x, hq, hvk, hx⟩ := hvs k l hlk
      rw [I.list_inj hxs hq, hvk, hx]
    · have hlt : c < s.heap.objs.size := by
        rcases List.mem_cons.mp hcm with q | hcm
        · rw [q]; exact hzl
        rcases List.mem_cons.mp hcm with q | hcm
        · rw [q]; exact Heap.lt_size hTI
        rcases List.mem_cons.mp hcm with q | hcm
        · rw [q]; obtain ⟨_, hTO, _⟩ := hTO; exact Heap.lt_size hTO
        · obtain ⟨k, hk⟩ := List.getElem?_of_mem hcm
          obtain ⟨l, hlk⟩ := lsk hk
          obtain ⟨_, e1, _⟩ := his k c l hk hlk
          exact Heap.lt_size e1
      rw [upd_ne (Nat.ne_of_lt hlt)]
      exact (hf c hcm).1
  done := by
    intro X hP hw hK hc i pins s σ H E I hf st hg
    subst hP hw hK
    obtain ⟨⟨f0, f1, hz, hf0⟩, hTI, hTO, his⟩ := st
    obtain ⟨l, xs, hl0, hq, hend⟩ := hg
    obtain ⟨its, rv, p, _⟩ := I.list hq
    have l1 := rv.length
    cases is with
    | nil => exact absurd rfl hne
    | cons a0 is =>
      exact pyNext_end (I.ok.hd hc) hz hf0 hTI hTO (his 0 a0 l rfl hl0) p.isList (by simp; omega) fun h' hk => ⟨rfl, I.turnedL (t' := s.toks) (ch := z :: TI :: TO :: a0 :: is) (fun c o hb q =>
        hk c o (fun q' => hb (by simp [q'])) (fun q' => hb (by simp [q'])) q) hf⟩
  self := fun A i s Q E st h => by
    obtain ⟨⟨f0, f1, hz, _⟩, _⟩ := st
    exact pyIter_zip hz h
/-- T(*e), T a built-in type -/
theorem callWith_tS {M : Model} {A : Around} {E : Value → Shared → Prop} {s : Shared} {env : Env} {pos p : Pos} {T : String} {Q : Value → Shared → Prop} {e : Expr} (h : wpAny M A (eval e env) (fun v s₁ => PySem.W.StarOf M A E v (fun vs s₂ => wpAny M A (call (.type T) vs) Q E s₂) s₁) E s)
    (he : starEach [.Starred e p] env = [(true, eval e env)] := by rfl) :
    wpAny M A (callWith pos (.type T) [] (backTo pos (starEach [.Starred e p] env)) []) Q E s := by
  rw [he]
  refine PySem.W.ks_call (P := fun _ => True) rfl (fun h _ => ⟨.machine, .inr (.inl rfl), PySem.W.Looks.of_pure rfl⟩) (PySem.W.ks_lone (wpAny_mono h (fun v s₁ h₁ => ?_) fun _ _ x => x))
  unfold PySem.W.StarOf at h₁ ⊢
  refine wpAny_mono h₁ (fun b s₂ h₂ => ⟨h₂.1, wpAny_mono h₂.2 (fun vs s₃ h₃ => ⟨trivial, ?_⟩) fun _ _ x => x⟩) fun _ _ x => x
  rw [List.nil_append]
  exact h₃
def iZipN (K : PySem.W.Frag) (te : TE) : TI := fun σ H R => te σ H fun y H1 => ∃ a ls, y = V.ref a ∧ SqL K H1 a (ls.map V.ref) ∧ ls ≠ [] ∧ ls.length ≤ 1000 ∧ (∀ l ∈ ls, ∃ xs, SqL K H1 l xs) ∧ R (Itzn K ls) H1
theorem vals_refs : ∀ {ls : List Addr} {us : List Value}, Vals (ls.map V.ref) us → us = ls.map Value.ref
  | [], _, .nil => rfl
  | _ :: ls, _, .cons a r => by
    obtain rfl := a
    rw [vals_refs r]
    rfl
theorem pi_zipn {X : Cx} {e : Expr} {te : TE} {p p2 pos tpos : Pos} {x : Str} (hg : Gl X "zip") (hm : X.mg "zip" = none) (he : PE X e te)
    (hst : starEach [.Starred e p2] X.env = [(true, eval e X.env)] := by rfl) :
    PI X (.Name x tpos) (.Call (.Name "zip" p) [.Starred e p2] [] pos) (iZipN X.K te) := by
  refine ⟨fun pins s σ H R I h => ?_⟩
  refine Call_ (ld_blt I hg hm PyProof.Rows.boot_zip (callWith_tS (thn (he.run pins s σ H _ I h) fun v s1 ⟨y, H1, I1, ry, a, ls, ey, hxs, hne, hn, hls, q⟩ => ?_) hst))
  subst ey
  obtain rfl : v = Value.ref a := ry
  refine StX.star_lst I1 hxs fun us s2 I2 rv => ?_
  obtain rfl := vals_refs rv
  refine call_zip_any hn (fun l hl => ?_) fun h' z TI TO hz hTI hTO hTT zl TIl TOl its hk => pyIter_zip hz ?_
  · obtain ⟨xs, hx⟩ := hls l hl
    obtain ⟨its, _, p, _⟩ := I2.list hx
    exact ⟨_, p.isList⟩
  · have I3 : Inv X pins σ H1 { s2 with heap := h' } := I2.kept (t' := s2.toks) hk
    have em : ((List.range ls.length).map fun k => Value.ref (s2.heap.objs.size + k)) = ((List.range ls.length).map fun k => s2.heap.objs.size + k).map Value.ref := by rw [List.map_map]; rfl
    have at_ : ∀ {k : Nat} {a : Addr}, ((List.range ls.length).map fun k => s2.heap.objs.size + k)[k]? = some a → a = s2.heap.objs.size + k := fun {k a} h => by
      have hlt : k < ls.length := by
        have := (List.getElem?_eq_some_iff.mp h).1
        simpa using this
      rw [List.getElem?_map, List.getElem?_range hlt] at h
      cases h
      rfl
    refine ⟨z, z :: TI :: TO :: ((List.range ls.length).map fun k => s2.heap.objs.size + k), _, _, H1, rfl, I3, turn_zipn (ls := ls) ?_ ?_ hTT (by simp) (by simpa using hn), ⟨⟨_, _, hz, .inl rfl⟩, by rw [em] at hTI; exact hTI, by simpa using hTO, fun k a l h1 h2 => ?_⟩, fun c hcm => ?_, q⟩
    · cases ls with
      | nil => exact absurd rfl hne
      | cons l r => simp [List.range_succ_eq_map]
    · exact List.pairwise_map.mpr ((List.nodup_range (n := ls.length)).imp fun h w => h (Nat.add_left_cancel w))
    · rw [at_ h1]
      exact its k l h2
    · have hle : s2.heap.objs.size ≤ c := by
        rcases List.mem_cons.mp hcm with q | hcm
        · rw [q]; exact zl
        rcases List.mem_cons.mp hcm with q | hcm
        · rw [q]; exact TIl
        rcases List.mem_cons.mp hcm with q | hcm
        · rw [q]; exact TOl
        · obtain ⟨k, _, rfl⟩ := List.mem_map.mp hcm
          exact Nat.le_add_right _ _
      exact I2.fpOk hle (I2.hok.fresh hle)
end FZ

/-! the rules that a table keeps, as the program looks at them: side by side with the equations -/
namespace Fd
open PySem PySem.Spec PyProof.Rows L2 Fp Classical
section
variable {n : Nat} {M : List (List Int)}
def Grp (n : Nat) (M : List (List Int)) : Prop := ∀ x, OkV n x → ∀ y, OkV n y → ∀ z, OkV n z → cel M (cel M x y) z = cel M x (cel M y z)
def Idem (n : Nat) (M : List (List Int)) : Prop := ∀ x, OkV n x → cel M x x = x
def Mid (n : Nat) (M : List (List Int)) : Prop := ∀ x, OkV n x → ∀ y, OkV n y → ∀ z, OkV n z → cel M (cel M (cel M (cel M x y) x) z) x = cel M (cel M (cel M x y) z) x
def shortP (n : Nat) (M : List (List Int)) (rule : Str) (x : Int) : Prop :=
  if rule = "first" then ∀ y, OkV n y → cel M (cel M x y) x = cel M x y
  else if rule = "last" then ∀ y, OkV n y → cel M (cel M x y) x = cel M y x
  else if rule = "ends" then ∀ y, OkV n y → ∀ z, OkV n z → cel M (cel M x y) z = cel M x z
  else if rule = "keep" then ∀ y, OkV n y → cel M x y = x
  else if rule = "take" then ∀ y, OkV n y → cel M x y = y
  else if rule = "vanish" then (∀ y, OkV n y → cel M (cel M x x) y = y) ∧ ∀ y, OkV n y → cel M (cel M y x) x = y
  else ∀ y, OkV n y → cel M x y = cel M y x
def ShortP (n : Nat) (M : List (List Int)) (rule : Str) : Prop := ∀ x, OkV n x → shortP n M rule x
def keptP (n : Nat) (M : List (List Int)) (rule : Str) : Prop :=
  if rule = "grouping" then Grp n M
  else if rule = "middle" then ((Grp n M ∧ Idem n M) ∧ ShortP n M "first") ∨ ((Grp n M ∧ Idem n M) ∧ ShortP n M "last") ∨ ((Grp n M ∧ Idem n M) ∧ ShortP n M "ends") ∨ ((Grp n M ∧ Idem n M) ∧ Mid n M)
  else if rule = "first" ∨ rule = "last" ∨ rule = "ends" then (Grp n M ∧ Idem n M) ∧ ShortP n M rule
  else if rule = "vanish" then Grp n M ∧ ShortP n M rule
  else ShortP n M rule
theorem noBreak (t : Tbl n M) {rule : Str} : firstBreak M rule = none ↔ ∀ x, OkV n x → ∀ y, OkV n y → ∀ z, OkV n z → tripleB M rule x y z = true := by
  unfold firstBreak
  rw [List.find?_eq_none, t.len]
  constructor
  · intro h x hx y hy z hz
    have := h (x, y, z) (by unfold trips; simp only [List.mem_flatMap, List.mem_map]; exact ⟨x, mem_span.mpr hx, y, mem_span.mpr hy, z, mem_span.mpr hz, rfl⟩)
    simpa using this
  · rintro h ⟨x, y, z⟩ hp
    unfold trips at hp
    simp only [List.mem_flatMap, List.mem_map, Prod.mk.injEq] at hp
    obtain ⟨a, ha, b, hb, c, hc, rfl, rfl, rfl⟩ := hp
    simp [h _ (mem_span.mp ha) _ (mem_span.mp hb) _ (mem_span.mp hc)]
theorem mid_of_first (hs : ShortP n M "first") : Mid n M := fun x hx y hy z hz => by
  have := hs x hx
  unfold shortP at this
  rw [if_pos rfl] at this
  rw [this y hy]
theorem mid_of_last (t : Tbl n M) (hg : Grp n M) (hs : ShortP n M "last") : Mid n M := fun x hx y hy z hz => by
  have h : ∀ a, OkV n a → ∀ b, OkV n b → cel M (cel M a b) a = cel M b a := fun a ha => by
    have := hs a ha
    unfold shortP at this
    rw [if_neg (by decide), if_pos rfl] at this
    exact this
  have xy := t.cel_ok hx hy
  have yx := t.cel_ok hy hx
  have yz := t.cel_ok hy hz
  have xz := t.cel_ok hx hz
  have zx := t.cel_ok hz hx
  rw [h x hx y hy, hg x hx y hy z hz, h x hx _ yz, hg y hy x hx z hz, hg y hy _ xz x hx, h x hx z hz, hg y hy z hz x hx]
theorem mid_of_ends (t : Tbl n M) (hs : ShortP n M "ends") : Mid n M := fun x hx y hy z hz => by
  have h : ∀ a, OkV n a → ∀ b, OkV n b → ∀ c, OkV n c → cel M (cel M a b) c = cel M a c := fun a ha => by
    have := hs a ha
    unfold shortP at this
    rw [if_neg (by decide), if_neg (by decide), if_pos rfl] at this
    exact this
  rw [h x hx y hy x hx, h x hx x hx z hz, h x hx y hy z hz]
theorem kept_eq (t : Tbl n M) (hn : 1 ≤ n) : ∀ rule ∈ R9s, keptP n M rule ↔ firstBreak M rule = none := by
  have o : OkV n 0 := ⟨Int.le_refl _, by omega⟩
  intro rule hr
  rw [noBreak t]
  have mid : ∀ {P : Prop}, (P ↔ (Grp n M ∧ Idem n M) ∧ Mid n M) → (((((Grp n M ∧ Idem n M) ∧ ShortP n M "first") ∨ ((Grp n M ∧ Idem n M) ∧ ShortP n M "last") ∨ ((Grp n M ∧ Idem n M) ∧ ShortP n M "ends") ∨ ((Grp n M ∧ Idem n M) ∧ Mid n M)) ↔ P)) := fun {P} h => by
    rw [h]
    constructor
    · rintro (⟨h1, h2⟩ | ⟨h1, h2⟩ | ⟨h1, h2⟩ | h1)
      · exact ⟨h1, mid_of_first h2⟩
      · exact ⟨h1, mid_of_last t h1.1 h2⟩
      · exact ⟨h1, mid_of_ends t h2⟩
      · exact h1
    · exact fun h1 => .inr (.inr (.inr h1))
  unfold R9s at hr
  simp only [List.mem_cons, List.not_mem_nil, or_false] at hr
  rcases hr with rfl | rfl | rfl | rfl | rfl | rfl | rfl | rfl | rfl
  · simp only [keptP, Grp, tripleB, sides]
    simp (config := { decide := true }) only [if_true, if_false, Bool.or_true, Bool.false_or, Bool.true_and, List.all_cons, List.all_nil, Bool.and_true, decide_true, decide_false, decide_eq_true_eq, Bool.and_eq_true]
  · simp only [keptP, ShortP, shortP, tripleB, sides]
    simp (config := { decide := true }) only [if_true, if_false, Bool.or_true, Bool.true_or, Bool.true_and, List.all_cons, List.all_nil, Bool.and_true, decide_true, decide_false, decide_eq_true_eq]
    simp only [fromLeft, List.foldl_cons, List.foldl_nil]
    exact ⟨fun h x hx y hy z hz => h x hx y hy, fun h x hx y hy => h x hx y hy 0 o⟩
  · show _ ↔ _
    unfold keptP
    rw [if_neg (by decide), if_pos rfl]
    refine mid ?_
    simp only [Grp, Idem, Mid, tripleB, sides]
    simp (config := { decide := true }) only [if_true, if_false, Bool.or_true, Bool.false_or, Bool.true_and, List.all_cons, List.all_nil, Bool.and_true, decide_true, decide_false, decide_eq_true_eq, Bool.and_eq_true]
    simp only [fromLeft, List.foldl_cons, List.foldl_nil]
    exact ⟨fun h => ⟨⟨fun x hx y hy z hz => (h x hx y hy z hz).1, fun x hx => (h x hx 0 o 0 o).2.1⟩, fun x hx y hy z hz => (h x hx y hy z hz).2.2⟩, fun h x hx y hy z hz => ⟨h.1.1 x hx y hy z hz, h.1.2 x hx, h.2 x hx y hy z hz⟩⟩
  · simp only [keptP, ShortP, Grp, Idem, shortP, tripleB, sides]
    simp (config := { decide := true }) only [if_true, if_false, Bool.or_true, Bool.false_or, Bool.true_and, List.all_cons, List.all_nil, Bool.and_true, decide_true, decide_false, decide_eq_true_eq, Bool.and_eq_true]
    simp only [fromLeft, List.foldl_cons, List.foldl_nil]
    exact ⟨fun h x hx y hy z hz => ⟨h.1.1 x hx y hy z hz, h.1.2 x hx, h.2 x hx y hy⟩, fun h => ⟨⟨fun x hx y hy z hz => (h x hx y hy z hz).1, fun x hx => (h x hx 0 o 0 o).2.1⟩, fun x hx y hy => (h x hx y hy 0 o).2.2⟩⟩
  · simp only [keptP, ShortP, Grp, Idem, shortP, tripleB, sides]
    simp (config := { decide := true }) only [if_true, if_false, Bool.or_true, Bool.false_or, Bool.true_and, List.all_cons, List.all_nil, Bool.and_true, decide_true, decide_false, decide_eq_true_eq, Bool.and_eq_true]
    simp only [fromLeft, List.foldl_cons, List.foldl_nil]
    exact ⟨fun h x hx y hy z hz => ⟨h.1.1 x hx y hy z hz, h.1.2 x hx, h.2 x hx y hy⟩, fun h => ⟨⟨fun x hx y hy z hz => (h x hx y hy z hz).1, fun x hx => (h x hx 0 o 0 o).2.1⟩, fun x hx y hy => (h x hx y hy 0 o).2.2⟩⟩
  · simp only [keptP, ShortP, Grp, Idem, shortP, tripleB, sides]
    simp (config := { decide := true }) only [if_true, if_false, Bool.or_true, Bool.false_or, Bool.true_and, List.all_cons, List.all_nil, Bool.and_true, decide_true, decide_false, decide_eq_true_eq, Bool.and_eq_true]
    simp only [fromLeft, List.foldl_cons, List.foldl_nil]
    exact ⟨fun h x hx y hy z hz => ⟨h.1.1 x hx y hy z hz, h.1.2 x hx, h.2 x hx y hy z hz⟩, fun h => ⟨⟨fun x hx y hy z hz => (h x hx y hy z hz).1, fun x hx => (h x hx 0 o 0 o).2.1⟩, fun x hx y hy z hz => (h x hx y hy z hz).2.2⟩⟩
  · simp only [keptP, ShortP, shortP, tripleB, sides]
    simp (config := { decide := true }) only [if_true, if_false, Bool.or_true, Bool.true_or, Bool.true_and, List.all_cons, List.all_nil, Bool.and_true, decide_true, decide_false, decide_eq_true_eq]
    simp only [fromLeft, List.foldl_cons, List.foldl_nil]
    exact ⟨fun h x hx y hy z hz => h x hx y hy, fun h x hx y hy => h x hx y hy 0 o⟩
  · simp only [keptP, ShortP, shortP, tripleB, sides]
    simp (config := { decide := true }) only [if_true, if_false, Bool.or_true, Bool.true_or, Bool.true_and, List.all_cons, List.all_nil, Bool.and_true, decide_true, decide_false, decide_eq_true_eq]
    simp only [fromLeft, List.foldl_cons, List.foldl_nil]
    exact ⟨fun h x hx y hy z hz => h x hx y hy, fun h x hx y hy => h x hx y hy 0 o⟩
  · simp only [keptP, ShortP, Grp, shortP, tripleB, sides]
    simp (config := { decide := true }) only [if_true, if_false, Bool.or_true, Bool.false_or, Bool.true_and, List.all_cons, List.all_nil, Bool.and_true, decide_true, decide_false, decide_eq_true_eq, Bool.and_eq_true]
    simp only [fromLeft, List.foldl_cons, List.foldl_nil]
    exact ⟨fun h x hx y hy z hz => ⟨h.1 x hx y hy z hz, (h.2 x hx).1 y hy, (h.2 x hx).2 y hy⟩, fun h => ⟨fun x hx y hy z hz => (h x hx y hy z hz).1, fun x hx => ⟨fun y hy => (h x hx y hy 0 o).2.1, fun y hy => (h x hx y hy 0 o).2.2⟩⟩⟩
theorem kept_rules_eq (t : Tbl n M) (hn : 1 ≤ n) : R9s.filter (fun r => decide (keptP n M r)) = rulesKept M := by
  unfold rulesKept
  refine List.filter_congr fun r hr => ?_
  rw [show decide (keptP n M r) = decide (firstBreak M r = none) from decide_eq_decide.mpr (kept_eq t hn r hr)]
  cases firstBreak M r <;> simp
/-! rows told by their values -/
theorem span_ext {f g : Int → Int} : (span n).map f = (span n).map g ↔ ∀ z, OkV n z → f z = g z := by
  rw [List.map_inj_left]
  exact ⟨fun h z hz => h z (mem_span.mpr hz), fun h z hz => h z (mem_span.mp hz)⟩
theorem rows_span (t : Tbl n M) : M = (span n).map (rowOf M) := by
  unfold span
  rw [List.map_map]
  refine List.ext_getElem (by rw [t.len]; simp) fun i h1 h2 => ?_
  simp only [List.getElem_map, List.getElem_range, Function.comp_def, rowOf, Int.toNat_natCast, List.getD_eq_getElem?_getD, List.getElem?_eq_getElem h1, Option.getD_some]
theorem span_get {i : Nat} {z : Int} (h : (span n)[i]? = some z) : z = i ∧ i < n := by
  unfold span at h
  have hi : i < n := by
    have := (List.getElem?_eq_some_iff.mp h).1
    simpa using this
  rw [List.getElem?_map, List.getElem?_range hi] at h
  cases h
  exact ⟨rfl, hi⟩
theorem span_at {i : Nat} (h : i < n) : (span n)[i]? = some (i : Int) := by
  unfold span
  rw [List.getElem?_map, List.getElem?_range h]
  rfl
theorem enum_span (f : Int → PyData) : enumD ((span n).map f) = (span n).map fun z => .tuple [.int z, f z] := by
  unfold enumD
  refine List.ext_getElem? fun i => ?_
  rw [List.getElem?_mapIdx, List.getElem?_map, List.getElem?_map]
  cases e : (span n)[i]? with
  | none => rfl
  | some z =>
    obtain ⟨rfl, _⟩ := span_get e
    rfl
end
end Fd

namespace Fp
open PySem PySem.Spec PyProof.Rows L2
/-! zip(*x), ~o by an own __invert__ -/
theorem pi_zipStar {X : Cx} {K : PySem.W.Frag} {e : Expr} {te : TE} {p p2 pos tpos : Pos} {x : Str} (hg : Gl X "zip") (hm : X.mg "zip" = none) (he : PE X e te) (hK : X.K = K := by rfl)
    (hst : starEach [.Starred e p2] X.env = [(true, eval e X.env)] := by rfl) :
    PI X (.Name x tpos) (.Call (.Name "zip" p) [.Starred e p2] [] pos) (FZ.iZipN K te) := by
  subst hK
  exact FZ.pi_zipn hg hm he hst
def rOwn1 (C : Addr) (sp : Sp) : V → Hp → VK → Prop := fun x H Q => ∃ a dx fs, x = .ref a ∧ H a = some (.ins C dx fs) ∧ sp [.ref a] H Q E0
theorem un_ownInv {X : Cx} {k : Nat} {C : Addr} {ps : List Str} {sp : Sp} (M : Mn X.prog X.w X.K X.mg X.base k C "__invert__" ps sp) (hr : Room k X.A) : UnR X (unaryOp .Invert) (rOwn1 C sp) := by
  intro pins s σ H x v Q I rx h
  obtain ⟨a, dx, fs, rfl, ha, q⟩ := h
  obtain rfl : v = Value.ref a := rx
  obtain ⟨g, fd, h1, h2, h3⟩ := M
  obtain ⟨od, J⟩ := inst_of I ha
  obtain ⟨m, hF⟩ := I.fr
  refine PySem.W.ksp_inv hF I.ok.mod.kin J h1.at_ h1.fn ?_
  exact wpAny_mono (run_fn (us := [.ref a]) (vs := [.ref a]) (dvs := []) h3 hr h2 .nil pass0 I (.cons rfl .nil) q) (fun w s' z => z) fun _ _ x => x
end Fp
namespace Fd
open PySem PySem.Spec PyProof.Rows L2 Fp
/-! ### zip(*x), as data -/
theorem dvs_lists {K : PySem.W.Frag} {H : Hp} : ∀ {rows : List (List PyData)} {vs : List V}, Dvs K H vs (rows.map .list) → ∃ ls : List Addr, vs = ls.map V.ref ∧ ls.length = rows.length ∧ ∀ (k : Nat) (l : Addr) (row : List PyData), ls[k]? = some l → rows[k]? = some row → ∃ xs, H l = some (.lst xs) ∧ Dvs K H xs row
  | [], _, .nil => ⟨[], rfl, rfl, fun k l row h => by simp at h⟩
  | row :: rows, _, .cons a t => by
    obtain ⟨p, xs, rfl, hp, hx⟩ := a.list
    obtain ⟨ls, rfl, hl, hk⟩ := dvs_lists t
    refine ⟨p :: ls, rfl, by rw [List.length_cons, List.length_cons, hl], fun k l r h1 h2 => ?_⟩
    cases k with
    | zero => cases h1; cases h2; exact ⟨xs, hp, hx⟩
    | succ k => exact hk k l r h1 h2
theorem dvs_pick {K : PySem.W.Frag} {H : Hp} : ∀ {vs : List V} {ds : List PyData}, vs.length = ds.length → (∀ (k : Nat) v d, vs[k]? = some v → ds[k]? = some d → Dv K H v d) → Dvs K H vs ds
  | [], [], _, _ => .nil
  | v :: vs, d :: ds, h, q => .cons (q 0 v d rfl rfl) (dvs_pick (by simpa using h) fun k v' d' h1 h2 => q (k + 1) v' d' h1 h2)
def zipC (rows : List (List PyData)) (m : Nat) : List PyData := (List.range m).map fun i => .tuple (rows.map fun r => r.getD i .none)
theorem evi_zipStar {K : PySem.W.Frag} {lv st : Bool} {δ : List SV} {te : TE} {rows : List (List PyData)} {m : Nat} (h : Ev K lv δ te (.list (rows.map .list))) (hne : rows ≠ []) (hn : rows.length ≤ 1000) (hm : ∀ r ∈ rows, r.length = m) : EvI K lv st δ (FZ.iZipN K te) (zipC rows m) := fun Z H σ al r R q => h Z H σ al r _ fun v H1 e hv => by
  obtain ⟨a, xs, rfl, ha, hx⟩ := hv.list
  obtain ⟨h1, h2⟩ := of_hid ha
  obtain ⟨ls, rfl, hl, hk⟩ := dvs_lists hx
  have at_ : ∀ {k : Nat} {l : Addr}, ls[k]? = some l → ∃ row, rows[k]? = some row := fun {k l} hh => ⟨_, List.getElem?_eq_getElem (by rw [← hl]; exact (List.getElem?_eq_some_iff.mp hh).1)⟩
  refine ⟨a, ls, rfl, .inl (.inl h1), fun w => hne (by cases rows with
    | nil => rfl
    | cons _ _ => rw [w] at hl; cases hl), by rw [hl]; exact hn, fun l hm => ?_, q _ H1 e ⟨fun i H' s hi => ?_, fun i H' x H'' d s hi y => ?_, fun i H' s hi => ?_⟩⟩
  · obtain ⟨k, hkl⟩ := List.getElem?_of_mem hm
    obtain ⟨row, hrow⟩ := at_ hkl
    obtain ⟨xs, hxs, _⟩ := hk k l row hkl hrow
    exact ⟨xs, .inl (.inl (of_hid hxs).1)⟩
  · -- go
    unfold zipC at hi
    rw [List.length_map, List.length_range] at hi
    have pick : ∀ k : Nat, ∃ x : V, ∀ l, ls[k]? = some l → ∃ xs, SqL K H' l xs ∧ xs[i]? = some x := fun k => by
      cases e1 : ls[k]? with
      | none => exact ⟨.non, fun l hh => by cases hh⟩
      | some l =>
        obtain ⟨row, hrow⟩ := at_ e1
        obtain ⟨xs, hxs, dx⟩ := hk k l row e1 hrow
        have hlt : i < xs.length := by rw [dx.len, hm row (List.mem_of_getElem? hrow)]; exact hi
        exact ⟨xs[i], fun l' hh => by cases hh; exact ⟨xs, .inl (.inl (s.kp _ _ (of_hid hxs).1 (of_hid hxs).2)), List.getElem?_eq_getElem hlt⟩⟩
    refine ⟨(List.range ls.length).map fun k => Classical.choose (pick k), by simp, fun k l hkl => ?_⟩
    obtain ⟨xs, h3, h4⟩ := Classical.choose_spec (pick k) l hkl
    exact ⟨xs, _, h3, by rw [List.getElem?_map, List.getElem?_range (List.getElem?_eq_some_iff.mp hkl).1]; rfl, h4⟩
  · -- yields
    obtain ⟨T, vs, rfl, hT, rfl, hvl, hvs⟩ := y
    refine ⟨same_new hT, fun Z' hz al' => ?_⟩
    unfold zipC at hi
    have hlt : i < m := by
      have := (List.getElem?_eq_some_iff.mp hi).1
      simpa using this
    rw [List.getElem?_map, List.getElem?_range hlt] at hi
    cases hi
    refine .tup (.inl (.inl (hid_new al' hT))) (dvs_pick (by rw [hvl, hl, List.length_map]) fun k v d h3 h4 => ?_)
    have hkl : k < ls.length := by rw [← hvl]; exact (List.getElem?_eq_some_iff.mp h3).1
    have e1 := List.getElem?_eq_getElem hkl
    obtain ⟨row, hrow⟩ := at_ e1
    obtain ⟨xs, hxs, dx⟩ := hk k _ row e1 hrow
    rw [List.getElem?_map, hrow] at h4
    cases h4
    have hs : SqL K H' ls[k] xs := .inl (.inl (s.kp _ _ (of_hid hxs).1 (of_hid hxs).2))
    have h5 := hvs k _ xs e1 hs
    rw [h3] at h5
    obtain ⟨d, hd, dv⟩ := dx.getV h5.symm
    show Dv K _ v (row.getD i .none)
    rw [List.getD_eq_getElem?_getD, hd]
    exact (dv.same (s.kp.hid hz)).same (same_hid (same_new hT))
  · -- stops
    unfold zipC at hi
    rw [List.length_map, List.length_range] at hi
    cases ls with
    | nil => exact absurd (by cases rows with
        | nil => rfl
        | cons _ _ => cases hl) hne
    | cons l0 ls =>
      obtain ⟨row, hrow⟩ := at_ (k := 0) rfl
      obtain ⟨xs, hxs, dx⟩ := hk 0 l0 row rfl hrow
      exact ⟨l0, xs, rfl, .inl (.inl (s.kp _ _ (of_hid hxs).1 (of_hid hxs).2)), by rw [dx.len, hm row (List.mem_of_getElem? hrow)]; exact hi⟩
section
variable {K : PySem.W.Frag} {lv st : Bool} {W : Wd} {δ δ1 δ2 : List SV} {t : Nat} {a b u : TS} {R S : Out → Nat → Prop} {te ta tb : TE} {ti : TI} {tr : TA} {tt : TT} {d x y : PyData} {ds es xs : List PyData} {i j l n m k : Nat} {g : TG} {c : Bool} {C : Addr} {kvs kvs' : List (PyData × PyData)}
/-! ### loops that look whether all is well: return False, or on -/
def AllO (Sh : List SV → Prop) (q : Prop) : Out → Nat → Prop
  | .nx δ, _ => Sh δ ∧ q
  | .rt d, _ => d = .bool false ∧ ¬ q
  | _, _ => False
theorem sw_leaf {Sh : List SV → Prop} {q : Prop} (h : EvB K δ tt c) (hc : c = false ↔ q) (hs : Sh δ) : Sw K W δ t (tIfS tt (tRet (tC (.bl false))) tNext) (AllO Sh q) :=
  sw_if h (fun h1 => sw_ret (lv := true) ev_bl ⟨rfl, fun w => by rw [hc.mpr w] at h1; cases h1⟩) (fun h1 => sw_next ⟨hs, hc.mp h1⟩)
theorem sw_allFor {α : Type} {as : List α} {dat : α → PyData} {p : α → Prop} {Sh : List SV → Prop} {vs : List Nat} (hi : EvI K true true δ ti (as.map dat)) (h0 : Sh δ)
    (hs : ∀ a δ' t', a ∈ as → Sh δ' → ∃ δ'', (∀ q ∈ own δ'', q ∈ own δ') ∧ Tg K true δ' vs g (dat a) δ'' ∧ Sw K W δ'' t' b (AllO Sh (p a))) : Sw K W δ t (tFor ti g b) (AllO Sh (∀ a ∈ as, p a)) := by
  refine sw_for (vs := vs) hi (fun i δ' _ => Sh δ' ∧ ∀ a ∈ as.take i, p a) ⟨h0, by simp⟩ (fun i d δ' t' hd hI => ?_) (fun δ' t' hI => ?_)
  · obtain ⟨h1, h2⟩ := hI
    rw [List.getElem?_map] at hd
    obtain ⟨a, ha, rfl⟩ := Option.map_eq_some_iff.mp hd
    obtain ⟨δ'', h3, h4, h5⟩ := hs a δ' t' (List.mem_of_getElem? ha) h1
    refine ⟨δ'', h3, h4, h5.imp fun o t2 ho => ?_⟩
    cases o with
    | nx δ3 =>
      refine ⟨ho.1, fun x hx => ?_⟩
      rw [List.take_add_one, ha] at hx
      rcases List.mem_append.mp hx with w | w
      · exact h2 x w
      · simp only [Option.toList_some, List.mem_singleton] at w
        rw [w]
        exact ho.2
    | rt d => exact ⟨ho.1, fun w => ho.2 (w a (List.mem_of_getElem? ha))⟩
    | bk _ => exact ho.elim
    | ct _ => exact ho.elim
    | ro _ _ => exact ho.elim
  · refine ⟨hI.1, ?_⟩
    have := hI.2
    rw [List.length_map, List.take_length] at this
    exact this
open Classical in
/-- .. and True behind it -/
theorem sw_allEnd {Sh : List SV → Prop} {q q' : Prop} (h : Sw K W δ t a (AllO Sh q)) (e : q ↔ q') (hd : d = .bool (decide q')) : Sw K W δ t (tSeq a (tRet (tC (.bl true)))) (Fin fun d' _ => d' = d) := by
  subst hd
  refine sw_seq (h.imp fun o t' ho => ?_)
  cases o with
  | nx δ3 => exact sw_ret (lv := true) ev_bl (show PyData.bool true = .bool (decide q') by rw [decide_eq_true (e.mp ho.2)])
  | rt d => exact ho.1.trans (by rw [decide_eq_false (fun w => ho.2 (e.mpr w))])
  | bk _ => exact ho.elim
  | ct _ => exact ho.elim
  | ro _ _ => exact ho.elim
/-! ### a thing of its own that gets other places -/
theorem own_gone : ∀ {δ : List SV} {i : Nat} {s : SV} {a : Addr}, (own δ).Nodup → δ[i]? = some s → a ∈ s.adr → a ∉ own (δ.set i .u) := fun {δ i s a} nd h m w => by
  have ex : ∀ {δ : List SV}, a ∈ own δ → ∃ (k : Nat) (t : SV), δ[k]? = some t ∧ a ∈ t.adr := fun {δ} w => by
    unfold own at w
    obtain ⟨t, ht, hm⟩ := List.mem_flatMap.mp w
    obtain ⟨k, hk⟩ := List.getElem?_of_mem ht
    exact ⟨k, t, hk, hm⟩
  obtain ⟨k, t, hk, hm⟩ := ex w
  by_cases e : i = k
  · subst e
    rw [List.getElem?_set_self (List.getElem?_eq_some_iff.mp h).1] at hk
    cases hk
    cases hm
  · rw [List.getElem?_set_ne e] at hk
    exact e (own_apart nd h hk m hm)
theorem Rel.swap {Z : Zs} {H H1 : Hp} {σ : L2.St} {p : Addr} {x y : OV} (r : Rel K Z H σ δ) (al : Al Z H) (h : δ[i]? = some (.o p x)) (hy : ∀ a ∈ y.adrs p, a ∈ x.adrs p ∨ H a = none) (nd : (y.adrs p).Nodup)
    (e : ∀ a o, H a = some o → a ∉ x.adrs p → H1 a = some o) (hov : ∀ Hh, OvAt K Hh H1 p y) : Rel K Z H1 σ ((fgt δ).set i (.o p y)) := by
  have hi : i < δ.length := (List.getElem?_eq_some_iff.mp h).1
  have alo := r.alo al
  have hf : (fgt δ)[i]? = some (.o p x) := by unfold fgt; rw [List.getElem?_map, h]; rfl
  have inv : ∀ b, b ∈ own ((fgt δ).set i (.o p y)) → b ∈ own δ ∨ H b = none := fun b hb => by
    rcases own_set _ i b hb with w | w
    · have w : b ∈ y.adrs p := w
      exact (hy b w).imp (fun w => own_in h w) id
    · rw [fgt_own] at w; exact .inl w
  have hs : Same (hid (Zo Z δ) H) (hid (Zo Z ((fgt δ).set i (.o p y))) H1) := hid_sub fun b o hb z => by
    obtain ⟨z1, z2⟩ := zo_f.mp z
    refine ⟨e b o hb fun m => z2 (own_in h m), zo_f.mpr ⟨z1, fun m => ?_⟩⟩
    rcases inv b m with w | w
    · exact z2 w
    · rw [w] at hb; cases hb
  refine ⟨by rw [List.length_set]; unfold fgt; rw [List.length_map]; exact r.len, fun k s hk => ?_, ?_, fun q hq => ?_⟩
  · by_cases ik : i = k
    · subst ik
      rw [List.getElem?_set_self (by unfold fgt; rw [List.length_map]; exact hi)] at hk
      cases hk
      exact ⟨(r.ok i _ h).1, hov _⟩
    · rw [List.getElem?_set_ne ik] at hk
      obtain ⟨s0, h0, rfl⟩ := fgt_at hk
      have g := r.ok k s0 h0
      cases s0 with
      | u => trivial
      | d d =>
        obtain ⟨v, g1, g2⟩ := g
        exact ⟨v, g1, g2.same hs⟩
      | b d => trivial
      | v v => exact g
      | o q ov => exact ⟨g.1, g.2.mono hs fun a o ha hb => e a o hb fun m => ik (own_apart r.nd h h0 m ha)⟩
  · have e2 : (fgt δ).set i (.o p y) = ((fgt δ).set i .u).set i (.o p y) := by rw [List.set_set]
    rw [e2]
    refine own_nd (s := .o p y) nd _ i ((own_sub (s := .u) rfl (fgt δ) i).nodup (by rw [fgt_own]; exact r.nd)) fun a ha => ?_
    rcases hy a ha with w | w
    · exact own_gone (by rw [fgt_own]; exact r.nd) hf w
    · intro m
      have m := (own_sub (s := .u) rfl (fgt δ) i).subset m
      rw [fgt_own] at m
      exact absurd w (alo a (by unfold Zo; rw [decide_eq_true m, Bool.or_true]))
  · rcases inv q hq with w | w
    · exact r.off q w
    · exact al.off w
theorem tFl_put (z : Int) (R R' : V) : putF ("_rows" : Str) R' (tFl z R) = tFl z R' := by
  rw [tFl_eq, tFl_eq]
  simp [putF, s_sr]
/-- o._rows = new rows, o a table of its own -/
theorem sw_tabfill {p dx A : Addr} {rs : List Addr} {E0 E : List (List Int)} (cl : Cls K C) (nR : NoAttr K C "_rows") (h : δ[i]? = some (.o p (.tab C dx A rs E0))) (hm : EvM K δ te E) (hl : E.length = E0.length) (q : ∀ A' rs', R (.nx ((fgt δ).set i (.o p (.tab C dx A' rs' E)))) t) : Sw K W δ t (sFld K (tVar i) te "_rows") R := fun Z H σ D mz al r iw h1 h2 h3 h4 h5 =>
  hm Z H σ al r _ fun A' rs' H1 e1 hn nd hmat => by
    have r1 := r.same e1
    obtain ⟨g0, g1, g2⟩ := r1.ok i _ h
    have zp := r.off p (own_mem h)
    have pn : p ∉ A' :: rs' := fun w => by
      have := hn p w
      obtain ⟨_, g1', _⟩ := r.ok i _ h
      rw [g1'] at this; cases this
    refine ⟨_, g0, p, C, dx, _, rfl, g1, cl, nR, (show 2 < 1000 by decide), ?_⟩
    rw [tFl_put]
    have hxa : ∀ a ∈ OV.adrs p (.tab C dx A' rs' E), a ∈ OV.adrs p (.tab C dx A rs E0) ∨ H a = none := fun a ha => by
      rcases List.mem_cons.mp ha with w | w
      · exact .inl (by rw [w]; exact List.mem_cons_self)
      · exact .inr (hn a w)
    have ek : ∀ a o, H a = some o → a ∉ OV.adrs p (.tab C dx A rs E0) → upd H1 p (.ins C dx (tFl (E0.length : Nat) (.ref A'))) a = some o := fun a o ha hb => by
      rw [upd_ne (fun w => hb (by rw [w]; exact List.mem_cons_self))]
      exact e1 a o ha
    refine h1 _ t _ _ (q A' rs') ⟨⟨fun b o hb m => ?_, fun b hb => upd_al b ?_⟩, fun b hb => ?_⟩ (r.swap al h hxa (List.nodup_cons.mpr ⟨pn, nd⟩) ek fun Hh => ⟨by rw [upd_same, hl], hmat.mono fun a o ha h => by rw [upd_ne (fun w => pn (by rw [← w]; exact ha))]; exact h⟩) ((iw.same e1).wr mz zp g1)
    · exact ek b o hb fun w => (mo_f.mp m).2 (own_in h w)
    · cases hb2 : H b with
      | none => exact absurd hb2 hb
      | some o => rw [e1 b o hb2]; intro w; cases w
    · rcases own_set _ i b hb with w | w
      · exact (hxa b w).imp (fun w => own_in h w) id
      · rw [fgt_own] at w; exact .inl w
/-! ### methods and operators of one's own, on data -/
theorem off_all (r : Rel K Z H σ δ) (al : Al Z H) : Al (Zl lv Z δ) H := r.all al lv
/-- hands back what a def made -/
theorem sw_retVO {P : List PyData → Prop} {G : List PyData → OV → Prop} (h : EvA K lv δ tr ds) (hP : P ds) (hf : ∀ x, G ds x → flatO x = true) (q : ∀ p x, G ds x → R (.ro p x) t) : Sw K W δ t (tRet (tCall (spVO K P G) [] E0 tr)) R := fun Z H σ D mz al r iw k1 k2 k3 k4 k5 =>
  h Z H σ al r _ fun vs H1 e1 hv => by
    rw [List.append_nil]
    refine ⟨Zl lv Z δ, ds, (r.all al lv).same e1, hv, hP, fun p x H2 e2 hg ho hn nd => ?_⟩
    have e : Same H H2 := e1.trans e2
    have hn' : ∀ a ∈ x.adrs p, H a = none := fun a ha => (Frm.of (M := fun _ => false) e1).none (hn a ha)
    exact k5 p x t H2 (q p x hg) (Frm.of e) (iw.same e) ⟨ho.flat (hf x hg), fun a ha => .inr (hn' a ha), nd, fun a ha => al.off (hn' a ha)⟩
theorem inst_hid {Z : Zs} {H : Hp} {v : V} (h : Dv K (hid Z H) v (iD C kvs)) : ∃ a dx fs, v = .ref a ∧ H a = some (.ins C dx fs) ∧ Dvf K (hid Z H) fs kvs := by
  obtain ⟨a, dx, fs, rfl, h1, h2⟩ := h.inst
  exact ⟨a, dx, fs, rfl, (of_hid h1).1, h2⟩
/-- x = ~o: a new thing -/
theorem sw_invVO {P : List PyData → Prop} {G : List PyData → OV → Prop} (h : Ev K lv δ te (iD C kvs)) (hP : P [iD C kvs]) (hf : ∀ x, G [iD C kvs] x → flatO x = true) (hi : i < δ.length) (q : ∀ p x, G [iD C kvs] x → R (.nx (δ.set i (.o p x))) t) : Sw K W δ t (tAsg (tUn (rOwn1 C (spVO K P G)) te) (gName i)) R := fun Z H σ D mz al r iw k1 k2 k3 k4 k5 =>
  h Z H σ al r _ fun v H1 e1 hv => by
    obtain ⟨a, dx, fs, rfl, ha, _⟩ := inst_hid hv
    refine ⟨a, dx, fs, rfl, ha, Zl lv Z δ, [iD C kvs], (r.all al lv).same e1, .cons hv .nil, hP, fun p x H2 e2 hg ho hn nd => ?_⟩
    have e : Same H H2 := e1.trans e2
    have hn' : ∀ a ∈ x.adrs p, H a = none := fun a ha => (Frm.of (M := fun _ => false) e1).none (hn a ha)
    refine k1 _ t _ H2 (q p x hg) (Aft.of (Frm.of e) fun b hb => ?_) (r.mine al e hn' nd (fun Hh s => ho.flat (hf x hg)) hi) (iw.same e)
    rcases own_set δ i b hb with w | w
    · exact .inr (hn' b w)
    · exact .inl w
theorem dv_tab {Z : Zs} {H : Hp} {p dx A : Addr} {rs : List Addr} {E : List (List Int)} (h : OvAt K (hid Z H) H p (.tab C dx A rs E)) (z : ∀ a ∈ OV.adrs p (.tab C dx A rs E), Z a = false) : Dv K (hid Z H) (.ref p) (tbD C E) := by
  refine .ins (hid_in h.1 (z p List.mem_cons_self)) ?_
  rw [tFl_eq]
  exact .cons (.int _) (.cons (mat_dv h.2 fun a ha => z a (List.mem_cons_of_mem _ ha)) .nil)
/-- ~o, read as data -/
theorem ev_inv {P : List PyData → Prop} {G : List PyData → OV → Prop} {E : List (List Int)} {C' : Addr} (h : Ev K lv δ te (iD C kvs)) (hP : P [iD C kvs]) (hf : ∀ x, G [iD C kvs] x → ∃ dx A rs, x = .tab C' dx A rs E) : Ev K lv δ (tUn (rOwn1 C (spVO K P G)) te) (tbD C' E) := fun Z H σ al r Q q =>
  h Z H σ al r _ fun v H1 e1 hv => by
    obtain ⟨a, dx, fs, rfl, ha, _⟩ := inst_hid hv
    refine ⟨a, dx, fs, rfl, ha, Zl lv Z δ, [iD C kvs], (r.all al lv).same e1, .cons hv .nil, hP, fun p x H2 e2 hg ho hn nd => ?_⟩
    obtain ⟨dx, A, rs, rfl⟩ := hf x hg
    refine q _ H2 (e1.trans e2) (dv_tab (OvAt.flat ho rfl) fun b hb => ?_)
    exact ((r.all al lv).same e1).off (hn b hb)
/-- two instances, an operator of their own -/
theorem r2_ownV {F : List PyData → PyData → Prop} (hF : F [iD C kvs, iD C kvs'] d) : R2d K (rOwn2 C (spV K F)) (iD C kvs) (iD C kvs') d := fun Z H v w al hv hw Q q => by
  obtain ⟨a, dx, fs, rfl, ha, _⟩ := inst_hid hv
  obtain ⟨b, dy, gs, rfl, hb, _⟩ := inst_hid hw
  exact ⟨a, dx, fs, b, dy, gs, rfl, rfl, ha, hb, Z, _, d, al, .cons hv (.cons hw .nil), hF, fun u H' e hu => q u H' e hu⟩
/-- o[x] by an own __getitem__ -/
theorem r2_ixOwn {E : XK} {F : List PyData → PyData → Prop} {G : List PyData → Addr → Str → PyData → Prop} (hF : F [iD C kvs, y] d) : R2d K (rIxOwn C (spVX K F G) E) (iD C kvs) y d := fun Z H v w al hv hw Q q => by
  obtain ⟨a, dx, fs, rfl, ha, _⟩ := inst_hid hv
  exact ⟨a, dx, fs, rfl, ha, Z, _, al, .cons hv (.cons hw .nil), .inl ⟨d, hF, fun u H' e hu => q u H' e hu⟩⟩
/-- isinstance(o, the class that it is of) -/
theorem ra_isiC : RAd K (fun xs H Q => ∃ a dx fs, xs = [V.ref a, .ref C] ∧ H a = some (.ins C dx fs) ∧ Q (.bl true) H) [iD C kvs, stD C] (.bool true) := fun Z H vs al hv Q q => by
  cases hv with
  | cons h1 h2 =>
    cases h2 with
    | cons h2 h3 =>
      cases h3
      obtain ⟨a, dx, fs, rfl, ha, _⟩ := inst_hid h1
      have e : ∀ {u : V} {x : PyData}, Dv K (hid Z H) u x → x = stD C → u = .ref C := fun {u x} hx e => by
        unfold stD at e
        cases hx with
        | st b => injection e with e; injection e with e0 _; injection e0 with _ e0; injection e0 with e0; rw [Int.ofNat.inj e0]
        | ins _ _ => injection e with e; injection e with e0 _; injection e0 with e0 _; cases e0
        | dk _ _ => injection e with e; injection e with e0 _; injection e0 with e0 _; cases e0
        | _ => cases e
      obtain rfl := e h2 rfl
      exact ⟨a, dx, fs, rfl, ha, q _ H (Same.refl _) (.bl _)⟩
/-- str(o) by an own __str__ -/
theorem ra_ownStr {F : List PyData → PyData → Prop} {s : Str} (hF : F [iD C kvs] (.str s)) : RAd K (rOwnStr C (spV K F)) [iD C kvs] (.str s) := fun Z H vs al hv Q q => by
  cases hv with
  | cons h1 h2 =>
    cases h2
    obtain ⟨a, dx, fs, rfl, ha, _⟩ := inst_hid h1
    refine ⟨a, dx, fs, rfl, ha, Z, _, _, al, .cons h1 .nil, hF, fun u H' e hu => ?_⟩
    cases hu
    exact ⟨s, rfl, q _ H' e (.str s)⟩
theorem ev_join {y : Str} {zs : List Str} (h : Ev K lv δ te (.list (zs.map .str))) (hl : (zs.map (·.length)).sum + zs.length * y.length ≤ 16777216) : Ev K lv δ (tM1 (rJoin K) (tC (.str y)) te) (.str (Txt.join y zs)) := fun Z H σ al r Q q =>
  ⟨⟨_, rfl⟩, h Z H σ al r _ fun v H2 e2 hv => by
    obtain ⟨a, xs, rfl, ha, hx⟩ := hv.list
    obtain rfl := hx.strs
    exact ⟨_, _, _, rfl, rfl, .inl (.inl (of_hid ha).1), hl, q _ H2 e2 (.str _)⟩⟩
/-- a method without arguments, on data -/
theorem ev_meth0 {m : Str} {F : List PyData → PyData → Prop} (ha : Ev K lv δ ta (iD C kvs)) (hm : fld m kvs = none) (hF : F [iD C kvs] d) : Ev K lv δ (tMeth C m (spV K F) [] E0 ta tNil) d := fun Z H σ al r Q q => ha Z H σ al r _ fun v H1 e1 hv => by
  obtain ⟨a, dx, fs, rfl, h1, h2⟩ := inst_hid hv
  refine ⟨a, dx, fs, rfl, h1, h2.no hm, ?_⟩
  exact ⟨Zl lv Z δ, _, d, (r.all al lv).same e1, .cons hv .nil, hF, fun u H' e hu => q u H' (e1.trans e) hu⟩
end
end Fd

/-! tables as data: walks over rows, lists of ints compared -/
namespace Fd
open PySem PySem.Spec PyProof.Rows L2 Fp
section
variable {K : PySem.W.Frag} {lv st : Bool} {W : Wd} {δ δ1 δ2 : List SV} {t : Nat} {a b u : TS} {R S : Out → Nat → Prop} {te ta tb : TE} {ti : TI} {tr : TA} {tt : TT} {d x y : PyData} {ds es xs : List PyData} {i j l m k : Nat} {g : TG} {c : Bool} {n : Nat} {M : List (List Int)} {v : Int}
theorem EvI.cast {ds' : List PyData} (h : EvI K lv st δ ti ds) (e : ds = ds') : EvI K lv st δ ti ds' := e ▸ h
theorem R2d.cast {r : R2} {d' : PyData} (h : R2d K r x y d) (e : d = d') : R2d K r x y d' := e ▸ h
def rowD (M : List (List Int)) (x : Int) : PyData := .list ((rowOf M x).map .int)
theorem rows_data (t : Tbl n M) : M.map (fun r => PyData.list (r.map PyData.int)) = (span n).map (rowD M) := by
  conv => lhs; rw [rows_span t]
  rw [List.map_map]
  rfl
theorem row_data (t : Tbl n M) (h : OkV n v) : (rowOf M v).map PyData.int = (span n).map fun z => PyData.int (cel M v z) := by
  rw [row_span t h, List.map_map]
  rfl
theorem evi_rows (t : Tbl n M) (h : Ev K lv δ te (mD M)) : EvI K lv st δ (iList K te) ((span n).map (rowD M)) := (evi_list h).cast (rows_data t)
theorem evi_row (t : Tbl n M) (o : OkV n v) (h : Ev K lv δ te (rowD M v)) : EvI K lv st δ (iList K te) ((span n).map fun z => PyData.int (cel M v z)) := (evi_list h).cast (row_data t o)
theorem evi_rowsE (t : Tbl n M) (h : Ev K lv δ te (mD M)) : EvI K lv st δ (iEnum K (tCons te tNil)) ((span n).map fun z => .tuple [.int z, rowD M z]) := (evi_enum (eva_cons h eva_nil)).cast (by rw [rows_data t, enum_span])
theorem evi_rowE (t : Tbl n M) (o : OkV n v) (h : Ev K lv δ te (rowD M v)) : EvI K lv st δ (iEnum K (tCons te tNil)) ((span n).map fun z => .tuple [.int z, .int (cel M v z)]) := (evi_enum (eva_cons h eva_nil)).cast (by rw [row_data t o, enum_span])
theorem evi_len (t : Tbl n M) (hn : n ≤ 100000) (h : Ev K lv δ te (mD M)) : EvI K lv st δ (iRng1 (tCons (tCB (rLenL K) (tCons te tNil)) tNil)) ((span n).map .int) := by
  have := evi_range1 (K := K) (lv := lv) (st := st) (δ := δ) (n := (n : Int)) (eva_cons ((ev_cb (eva_cons h eva_nil) ra_len).cast (by rw [List.length_map, t.len])) eva_nil) (by omega) (by omega)
  rwa [Int.toNat_natCast, rngD_span] at this
theorem ev_single {z : Int} (h : Ev K lv δ te (.int z)) : Ev K lv δ (tLst (tCons te tNil)) (.list ([z].map .int)) := ev_lst (eva_cons h eva_nil) (by simp)
/-- rows[x] with what is known of it -/
theorem ev_rowD (hr : Ev K lv δ ta (mD M)) (t : Tbl n M) (ha : Ev K lv δ te (.int v)) (h : OkV n v) : Ev K lv δ (tOp (rIxL K) ta te) (rowD M v) := ev_row hr t ha h
theorem r2_eqL {l r : List Int} : R2d K (rEqC K) (.list (l.map .int)) (.list (r.map .int)) (.bool (decide (l = r))) := (r2_eqC (eqok_ints l r)).cast (by rw [eqv_ints])
theorem r2_neL {l r : List Int} : R2d K (rNeC K) (.list (l.map .int)) (.list (r.map .int)) (.bool (!decide (l = r))) := (r2_neC (eqok_ints l r)).cast (by rw [eqv_ints])
/-- [.. for z in ..] over 0 .. n - 1, ints -/
theorem ev_mapI {f : Int → Int} {dat : Int → PyData} (hi : EvI K lv true δ ti ((span n).map dat)) (hu : δ[j]? = some .u) (hn : n < 100000) (hs : ∀ z, OkV n z → Ev K lv (δ.set j (sl lv (dat z))) te (.int (f z))) : Ev K lv δ (tLc ti (gName j) tYes te [j]) (.list (((span n).map f).map .int)) :=
  (ev_map (fv := fun z => .int (f z)) hi hu (by rw [span_len]; exact hn) fun z hz => hs z (mem_span.mp hz)).cast (by rw [List.map_map]; rfl)
theorem AllO.imp {Sh Sh' : List SV → Prop} {q q' : Prop} (hS : ∀ δ, Sh δ → Sh' δ) (e : q ↔ q') {o : Out} (h : AllO Sh q o t) : AllO Sh' q' o t := by
  cases o with
  | nx δ => exact ⟨hS δ h.1, e.mp h.2⟩
  | rt d => exact ⟨h.1, fun w => h.2 (e.mpr w)⟩
  | bk _ => exact h.elim
  | ct _ => exact h.elim
  | ro _ _ => exact h.elim
theorem span_all {p : Int → Prop} : (∀ z ∈ span n, p z) ↔ ∀ z, OkV n z → p z := ⟨fun h z hz => h z (mem_span.mpr hz), fun h z hz => h z (mem_span.mp hz)⟩
theorem Sw.all {Sh Sh' : List SV → Prop} {q q' : Prop} (h : Sw K W δ t a (AllO Sh q)) (hS : ∀ δ, Sh δ → Sh' δ) (e : q ↔ q') : Sw K W δ t a (AllO Sh' q') := h.imp fun o t' ho => AllO.imp hS e ho
/-- the columns -/
def trM (n : Nat) (M : List (List Int)) : List (List Int) := (span n).map fun y => (span n).map fun x => cel M x y
theorem trM_row {z : Int} (h : OkV n z) : rowOf (trM n M) z = (span n).map fun x => cel M x z := by
  obtain ⟨i, rfl⟩ : ∃ i : Nat, z = i := ⟨z.toNat, by have := h.1; omega⟩
  have hi : i < n := by unfold OkV at h; omega
  unfold rowOf trM
  rw [Int.toNat_natCast, List.getD_eq_getElem?_getD, List.getElem?_map, span_at hi]
  rfl
theorem span_getD {f : Int → Int} {z : Int} (h : OkV n z) : ((span n).map f).getD z.toNat 0 = f z := by
  obtain ⟨i, rfl⟩ : ∃ i : Nat, z = i := ⟨z.toNat, by have := h.1; omega⟩
  have hi : i < n := by unfold OkV at h; omega
  rw [Int.toNat_natCast, List.getD_eq_getElem?_getD, List.getElem?_map, span_at hi]
  rfl
theorem trM_cel {x y : Int} (hx : OkV n x) (hy : OkV n y) : cel (trM n M) x y = cel M y x := by
  unfold cel
  rw [trM_row hx, span_getD hy]
  rfl
theorem trM_tbl (t : Tbl n M) : Tbl n (trM n M) := ⟨by unfold trM; rw [List.length_map, span_len], fun r hr => by
  obtain ⟨y, _, rfl⟩ := List.mem_map.mp hr
  rw [List.length_map, span_len], fun r hr z hz => by
  obtain ⟨y, hy, rfl⟩ := List.mem_map.mp hr
  obtain ⟨x, hx, rfl⟩ := List.mem_map.mp hz
  exact t.cel_ok (mem_span.mp hx) (mem_span.mp hy)⟩
/-- what a name holds is forgotten (a comprehension of its own name) -/
theorem Rel.un {Z : Zs} {H : Hp} {σ : L2.St} {s : SV} (r : Rel K Z H σ δ) (hs : δ[i]? = some s) (ha : s.adr = []) : Rel K Z H σ (δ.set i .u) := by
  have e : own (δ.set i .u) = own δ := own_eq (s := .u) (t := s) ha.symm δ i hs
  refine ⟨by rw [List.length_set]; exact r.len, fun k t hk => ?_, by rw [e]; exact r.nd, fun q hq => r.off q (e ▸ hq)⟩
  by_cases ik : i = k
  · subst ik
    rw [List.getElem?_set_self (List.getElem?_eq_some_iff.mp hs).1] at hk
    cases hk
    trivial
  · rw [List.getElem?_set_ne ik] at hk
    exact svOk_eq (by unfold Zo; rw [e]) (r.ok k t hk)
theorem Ev.un {s : SV} (h : Ev K lv (δ.set i .u) te d) (hs : δ[i]? = some s) (ha : s.adr = []) : Ev K lv δ te d := fun Z H σ al r Q q => h Z H σ al (r.un hs ha) Q fun v H' e hv => q v H' e (by
  have e2 : own (δ.set i .u) = own δ := own_eq (s := .u) (t := s) ha.symm δ i hs
  unfold Zl Zo at hv ⊢
  rw [e2] at hv
  exact hv)
theorem span_map {α : Type} (g : Int → α) : (span n).map g = (List.range n).map fun (i : Nat) => g i := by
  unfold span
  rw [List.map_map]
  rfl
theorem ra_listT : RAd K (rListT K) [.tuple xs] (.list xs) := fun Z H vs al h Q q => by
  cases h with
  | cons a b =>
    cases b
    obtain ⟨p, ws, rfl, h1, h2⟩ := a.tuple
    exact ⟨p, ws, rfl, same_tup hid_out h1, fun l hl => q _ _ (same_new hl) (.lst (hid_new al hl) (h2.same (same_hid (same_new hl))))⟩
/-- [list(column) for column in zip(*rows)] -/
theorem ev_columns (t : Tbl n M) (hn : 1 ≤ n) (hn2 : n ≤ 100) (h : Ev K true δ te (mD M)) (hu : δ[j]? = some .u) : Ev K true δ (tLc (FZ.iZipN K te) (gName j) tYes (tCB (rListT K) (tCons (tVar j) tNil)) [j]) (mD (trM n M)) := by
  have hj : j < δ.length := (List.getElem?_eq_some_iff.mp hu).1
  have hz : EvI K true true δ (FZ.iZipN K te) ((span n).map fun z => .tuple ((span n).map fun x => PyData.int (cel M x z))) := by
    have h2 := evi_zipStar (K := K) (lv := true) (st := true) (δ := δ) (te := te) (rows := (span n).map fun x => (span n).map fun z => PyData.int (cel M x z)) (m := n) (by
      refine h.cast ?_
      unfold mD
      rw [rows_data t, List.map_map]
      refine congrArg _ (List.map_congr_left fun x hx => ?_)
      show rowD M x = .list _
      unfold rowD
      rw [row_data t (mem_span.mp hx)]) (by
        intro w
        have := congrArg List.length w
        rw [List.length_map, span_len] at this
        simp at this
        omega) (by rw [List.length_map, span_len]; omega) (fun r hr => by
        obtain ⟨x, _, rfl⟩ := List.mem_map.mp hr
        rw [List.length_map, span_len])
    refine h2.cast ((List.map_congr_left fun i hi => ?_).trans (span_map _).symm)
    have hi := List.mem_range.mp hi
    show PyData.tuple _ = PyData.tuple _
    rw [List.map_map]
    refine congrArg _ (List.map_congr_left fun x hx => ?_)
    show List.getD ((span n).map fun z => PyData.int (cel M x z)) i PyData.none = _
    rw [List.getD_eq_getElem?_getD, List.getElem?_map, span_at hi]
    rfl
  have key := ev_map (K := K) (lv := true) (δ := δ) (j := j) (fv := fun z => PyData.list ((span n).map fun x => PyData.int (cel M x z))) hz hu (by rw [span_len]; omega) (te := tCB (rListT K) (tCons (tVar j) tNil)) (fun z _ => ev_cb (eva_cons (ev_var (by rw [List.getElem?_set_self hj]; rfl)) eva_nil) ra_listT)
  refine key.cast ?_
  unfold mD trM
  rw [List.map_map]
  refine congrArg _ (List.map_congr_left fun z _ => ?_)
  show _ = PyData.list _
  rw [List.map_map]
  rfl
end
end Fd

/-! lists of lists compared; names forgotten; new things in pairs; turned tables -/
namespace Fd
open PySem PySem.Spec PyProof.Rows L2 Fp
theorem eqv_mats : ∀ a b : List (List Int), PyData.eqv (mD a) (mD b) = decide (a = b) := fun a b => by
  show PyData.eqvAll (a.map fun r => PyData.list (r.map .int)) (b.map fun r => PyData.list (r.map .int)) = _
  induction a generalizing b with
  | nil => cases b <;> rfl
  | cons x a ih =>
    cases b with
    | nil => rfl
    | cons y b =>
      show (PyData.eqv (.list (x.map .int)) (.list (y.map .int)) && PyData.eqvAll (a.map fun r => PyData.list (r.map .int)) (b.map fun r => PyData.list (r.map .int))) = _
      rw [ih b, eqv_ints]
      by_cases h : x = y
      · subst h
        simp
      · simp [h]
theorem flat_list1 (l : List Int) : PyData.hasDictAll (l.map .int) = false ∧ PyData.canLayAll0 (l.map .int) = true ∧ PyData.depthAll (l.map .int) ≤ 1 := by
  induction l with
  | nil => exact ⟨rfl, rfl, Nat.zero_le _⟩
  | cons x r ih => exact ⟨by show (false || _) = _; rw [ih.1]; rfl, by show (true && _) = _; rw [ih.2.1]; rfl, by show max _ _ ≤ 1; exact Nat.max_le.mpr ⟨Nat.zero_le _, ih.2.2⟩⟩
theorem eqok_mats (a b : List (List Int)) : EqOk (mD a) (mD b) := by
  have h : ∀ l : List (List Int), PyData.hasDictAll (l.map fun r => PyData.list (r.map .int)) = false ∧ PyData.canLayAll0 (l.map fun r => PyData.list (r.map .int)) = true ∧ PyData.depthAll (l.map fun r => PyData.list (r.map .int)) ≤ 2 := fun l => by
    induction l with
    | nil => exact ⟨rfl, rfl, Nat.zero_le _⟩
    | cons x r ih =>
      obtain ⟨f1, f2, f3⟩ := flat_list1 x
      refine ⟨?_, ?_, ?_⟩
      · show (PyData.hasDictAll (x.map .int) || _) = _
        rw [f1, ih.1]; rfl
      · show (PyData.canLayAll0 (x.map .int) && _) = _
        rw [f2, ih.2.1]; rfl
      · show max (PyData.depthAll (x.map .int) + 1) _ ≤ 2
        exact Nat.max_le.mpr ⟨by omega, ih.2.2⟩
  refine ⟨(h a).1, (h b).1, (h a).2.1, (h b).2.1, Nat.le_trans (Nat.min_le_left _ _) ?_⟩
  show PyData.depthAll _ + 1 ≤ 64
  have := (h a).2.2
  omega
theorem eqv_strsL : ∀ a b : List Str, PyData.eqv (.list (a.map .str)) (.list (b.map .str)) = decide (a = b) := fun a b => by
  show PyData.eqvAll (a.map PyData.str) (b.map PyData.str) = _
  induction a generalizing b with
  | nil => cases b <;> rfl
  | cons x a ih =>
    cases b with
    | nil => rfl
    | cons y b =>
      show ((x == y) && PyData.eqvAll (a.map PyData.str) (b.map PyData.str)) = _
      rw [ih b]
      by_cases h : x = y
      · subst h
        simp
      · simp [h]
theorem eqok_strsL (a b : List Str) (ha : ∀ s ∈ a, (PyData.str s).canLay0 = true) (hb : ∀ s ∈ b, (PyData.str s).canLay0 = true) : EqOk (.list (a.map .str)) (.list (b.map .str)) := by
  have h : ∀ l : List Str, (∀ s ∈ l, (PyData.str s).canLay0 = true) → PyData.hasDictAll (l.map .str) = false ∧ PyData.canLayAll0 (l.map .str) = true ∧ PyData.depthAll (l.map .str) ≤ 1 := fun l hl => by
    induction l with
    | nil => exact ⟨rfl, rfl, Nat.zero_le _⟩
    | cons x r ih =>
      have ih := ih fun s hs => hl s (List.mem_cons_of_mem _ hs)
      exact ⟨by show (false || _) = _; rw [ih.1]; rfl, by show (PyData.canLay0 (.str x) && PyData.canLayAll0 _) = _; rw [ih.2.1, hl x List.mem_cons_self]; rfl, by show max _ _ ≤ 1; exact Nat.max_le.mpr ⟨Nat.zero_le _, ih.2.2⟩⟩
  refine ⟨(h a ha).1, (h b hb).1, (h a ha).2.1, (h b hb).2.1, Nat.le_trans (Nat.min_le_left _ _) ?_⟩
  show PyData.depthAll _ + 1 ≤ 64
  have := (h a ha).2.2
  omega
section
variable {K : PySem.W.Frag} {lv st : Bool} {W : Wd} {δ δ1 δ2 : List SV} {t : Nat} {a b u : TS} {R S : Out → Nat → Prop} {te ta tb : TE} {ti : TI} {tr : TA} {tt : TT} {d x y : PyData} {ds es xs : List PyData} {i j l m k : Nat} {g : TG} {c : Bool} {n : Nat} {M N : List (List Int)} {v : Int} {A B : List Str}
theorem r2_eqM : R2d K (rEqC K) (mD M) (mD N) (.bool (decide (M = N))) := (r2_eqC (eqok_mats M N)).cast (by rw [eqv_mats])
theorem r2_neM : R2d K (rNeC K) (mD M) (mD N) (.bool (!decide (M = N))) := (r2_neC (eqok_mats M N)).cast (by rw [eqv_mats])
theorem r2_eqSL (ha : ∀ s ∈ A, (PyData.str s).canLay0 = true) (hb : ∀ s ∈ B, (PyData.str s).canLay0 = true) : R2d K (rEqC K) (.list (A.map .str)) (.list (B.map .str)) (.bool (decide (A = B))) := (r2_eqC (eqok_strsL A B ha hb)).cast (by rw [eqv_strsL])
theorem r2_neSL (ha : ∀ s ∈ A, (PyData.str s).canLay0 = true) (hb : ∀ s ∈ B, (PyData.str s).canLay0 = true) : R2d K (rNeC K) (.list (A.map .str)) (.list (B.map .str)) (.bool (!decide (A = B))) := (r2_neC (eqok_strsL A B ha hb)).cast (by rw [eqv_strsL])
/-! ### names forgotten -/
inductive Fo : List SV → List SV → Prop
  | nil : Fo [] []
  | keep {s : SV} {δ δ' : List SV} : Fo δ δ' → Fo (s :: δ) (s :: δ')
  | un {s : SV} {δ δ' : List SV} : Fo δ δ' → Fo (s :: δ) (.u :: δ')
theorem Fo.own {δ δ' : List SV} (h : Fo δ δ') : (own δ').Sublist (own δ) := by
  induction h with
  | nil => exact .slnil
  | keep h ih => exact (List.Sublist.refl _).append ih
  | un h ih => exact ih.trans (List.sublist_append_right _ _)
theorem Fo.at_ {δ δ' : List SV} (h : Fo δ δ') : δ'.length = δ.length ∧ ∀ (i : Nat) (s : SV), δ'[i]? = some s → s = .u ∨ δ[i]? = some s := by
  induction h with
  | nil => exact ⟨rfl, fun i s h => by simp at h⟩
  | keep h ih => exact ⟨by rw [List.length_cons, List.length_cons, ih.1], fun i s hs => by
      cases i with
      | zero => exact .inr hs
      | succ i => exact ih.2 i s hs⟩
  | un h ih => exact ⟨by rw [List.length_cons, List.length_cons, ih.1], fun i s hs => by
      cases i with
      | zero => cases hs; exact .inl rfl
      | succ i => exact ih.2 i s hs⟩
theorem Rel.fo {Z : Zs} {H : Hp} {σ : L2.St} {δ' : List SV} (r : Rel K Z H σ δ) (h : Fo δ δ') : Rel K Z H σ δ' := by
  have hz : Same (hid (Zo Z δ) H) (hid (Zo Z δ') H) := zo_sub h.own
  refine ⟨by rw [r.len, h.at_.1], fun i s hs => ?_, r.nd.sublist h.own, fun p hp => r.off p (h.own.subset hp)⟩
  rcases h.at_.2 i s hs with rfl | e
  · trivial
  · have g := r.ok i s e
    cases s with
    | u => trivial
    | d d =>
      obtain ⟨v, h1, h2⟩ := g
      exact ⟨v, h1, h2.same hz⟩
    | b d => exact g
    | v v => exact g
    | o p ov => exact ⟨g.1, g.2.mono hz fun _ _ _ e => e⟩
theorem Aft.fo {δ' : List SV} {H H' : Hp} (h : Fo δ δ') (f : Aft W δ' δ2 H H') : Aft W δ δ2 H H' := ⟨⟨fun b o hb m => f.frm.keep b o hb (by
  obtain ⟨m1, m2⟩ := mo_f.mp m
  exact mo_f.mpr ⟨m1, fun w => m2 (h.own.subset w)⟩), f.frm.al⟩, fun p hp => (f.new p hp).imp (fun w => h.own.subset w) id⟩
theorem Frm.fo {δ' : List SV} {H H' : Hp} (h : Fo δ δ') (f : Frm (Mo W δ') H H') : Frm (Mo W δ) H H' := ⟨fun b o hb m => f.keep b o hb (by
  obtain ⟨m1, m2⟩ := mo_f.mp m
  exact mo_f.mpr ⟨m1, fun w => m2 (h.own.subset w)⟩), f.al⟩
/-- less is known -/
theorem Sw.fo {δ' : List SV} (h : Fo δ δ') (s : Sw K W δ' t a R) : Sw K W δ t a R := fun Z H σ D mz al r iw h1 h2 h3 h4 h5 =>
  s Z H σ D mz al (r.fo h) iw (fun δ2 t' σ' H' q f => h1 δ2 t' σ' H' q (f.fo h)) (fun d t' v H' q f => h2 d t' v H' q (f.fo h)) (fun δ2 t' σ' H' q f => h3 δ2 t' σ' H' q (f.fo h)) (fun δ2 t' σ' H' q f => h4 δ2 t' σ' H' q (f.fo h))
    (fun p x t' H' q f i n => h5 p x t' H' q (f.fo h) i ⟨n.ok, fun a ha => (n.new a ha).imp (fun w => h.own.subset w) id, n.nd, n.off⟩)
theorem OvAt.alive {Hh H : Hp} {p : Addr} {x : OV} (h : OvAt K Hh H p x) (f : flatO x = true) : ∀ a ∈ x.adrs p, H a ≠ none := by
  have mat : ∀ {p : Addr} {rs : List Addr} {E : List (List Int)}, MatAt H p rs E → ∀ a ∈ p :: rs, H a ≠ none := fun {p rs E} h a ha => by
    rcases List.mem_cons.mp ha with rfl | ha
    · rw [h.1]; intro w; cases w
    · obtain ⟨k, hk⟩ := List.getElem?_of_mem ha
      have hlt : k < E.length := by rw [← h.2.1]; exact (List.getElem?_eq_some_iff.mp hk).1
      rw [h.2.2 k a _ hk (List.getElem?_eq_getElem hlt)]
      intro w; cases w
  cases x with
  | mat rs E => exact mat h
  | tab C dx R rs E =>
    intro a ha
    rcases List.mem_cons.mp ha with rfl | ha
    · rw [h.1]; intro w; cases w
    · exact mat h.2 a ha
  | lst _ => cases f
  | dk _ => cases f
  | dt _ => cases f
  | two _ _ => cases f
/-- x, y = (a new thing, data) -/
theorem sw_tupVOD {P : List PyData → Prop} {G : List PyData → OV → Prop} (h : EvA K lv δ tr ds) (hP : P ds) (hf : ∀ x, G ds x → flatO x = true) (h' : Ev K true δ tb y) (hi : i < δ.length) (q : ∀ p x, G ds x → R (.nx ((δ.set i (.o p x)).set j (.d y))) t) :
    Sw K W δ t (tAsg (tTup (tCons (tCall (spVO K P G) [] E0 tr) (tCons tb tNil))) (gTup K 2 (gCons (gName i) (gCons (gName j) gNil)))) R := fun Z H σ D mz al r iw h1 h2 h3 h4 h5 =>
  h Z H σ al r _ fun vs H1 e1 hv => by
    rw [List.append_nil]
    refine ⟨Zl lv Z δ, ds, (r.all al lv).same e1, hv, hP, fun p x H2 e2 hg ho hn nd => ?_⟩
    have e12 : Same H H2 := e1.trans e2
    have hn' : ∀ a ∈ x.adrs p, H a = none := fun a ha => (Frm.of (M := fun _ => false) e1).none (hn a ha)
    have al2 : Al (fun a => Z a || decide (a ∈ x.adrs p)) H2 := fun a ha => by
      rcases Bool.or_eq_true_iff.mp ha with w | w
      · exact al.same e12 a w
      · exact ho.alive (hf x hg) a (of_decide_eq_true w)
    have r2 : Rel K (fun a => Z a || decide (a ∈ x.adrs p)) H2 σ δ := r.hide (fun b o h _ => e12 b o h) (fun a ha => by
      rcases Bool.or_eq_true_iff.mp ha with w | w
      · exact .inl w
      · exact .inr (hn' a (of_decide_eq_true w))) al
    refine h' _ H2 σ al2 r2 _ fun v H3 e3 hy => ?_
    refine ⟨by show 2 ≤ sizeLine; decide, fun tp htp => ⟨tp, _, rfl, .inl (.inl upd_same), rfl, _, _, rfl, _, _, rfl, rfl, ?_⟩⟩
    have e34 : Same H3 (upd H3 tp (.tup [.ref p, v])) := same_new htp
    have e : Same H (upd H3 tp (.tup [.ref p, v])) := (e12.trans e3).trans e34
    have st : ∀ a ∈ x.adrs p, ∀ o, H2 a = some o → upd H3 tp (.tup [.ref p, v]) a = some o := fun a _ o h => e34 a o (e3 a o h)
    have r1 : Rel K Z (upd H3 tp (.tup [.ref p, v])) (σ.set i (some (.ref p))) (δ.set i (.o p x)) := r.mine al e hn' nd (fun Hh s => (ho.flat (Hh' := Hh) (hf x hg)).mono (Same.refl _) fun a o ha h => st a ha o h) hi
    refine h1 _ t _ _ (q p x hg) (Aft.of (Frm.of e) fun b hb => ?_) (r1.putD (hy.same (hid_sub fun b o hb z => ?_))) (iw.same e)
    · rcases own_set _ i b (own_put rfl b hb) with w | w
      · exact .inr (hn' b w)
      · exact .inl w
    · have z : Zo (fun a => Z a || decide (a ∈ x.adrs p)) δ b = false := z
      obtain ⟨z1, z2⟩ := zo_f.mp z
      obtain ⟨z1, z3⟩ := Bool.or_eq_false_iff.mp z1
      refine ⟨e34 b o hb, zo_f.mpr ⟨z1, fun m => ?_⟩⟩
      rcases own_set _ i b m with w | w
      · exact (of_decide_eq_false z3) w
      · exact z2 w
end
/-! ### turned tables -/
section
variable {n : Nat} {M : List (List Int)}
theorem cel_ext {A B : List (List Int)} (t : Tbl n A) (t2 : Tbl n B) (h : ∀ x, OkV n x → ∀ y, OkV n y → cel A x y = cel B x y) : A = B := by
  rw [rows_span t, rows_span t2]
  refine List.map_congr_left fun x hx => ?_
  have ox := mem_span.mp hx
  rw [row_span t ox, row_span t2 ox]
  exact span_ext.mpr fun y oy => h x ox y oy
theorem trM_trM (t : Tbl n M) : trM n (trM n M) = M := cel_ext (trM_tbl (trM_tbl t)) t fun x ox y oy => by rw [trM_cel ox oy, trM_cel oy ox]
def swR (r : Str) : Str := if r = "first" then "last" else if r = "last" then "first" else if r = "keep" then "take" else if r = "take" then "keep" else r
theorem Grp.turn (t : Tbl n M) (h : Grp n M) : Grp n (trM n M) := fun x ox y oy z oz => by
  have tt := trM_tbl t
  rw [trM_cel ox oy, trM_cel oy oz, trM_cel (t.cel_ok oy ox) oz, trM_cel ox (t.cel_ok oz oy)]
  exact (h z oz y oy x ox).symm
theorem mid_eq (t : Tbl n M) : keptP n M "middle" ↔ (Grp n M ∧ Idem n M) ∧ Mid n M := by
  unfold keptP
  rw [if_neg (by decide), if_pos rfl]
  constructor
  · rintro (⟨h1, h2⟩ | ⟨h1, h2⟩ | ⟨h1, h2⟩ | h1)
    · exact ⟨h1, mid_of_first h2⟩
    · exact ⟨h1, mid_of_last t h1.1 h2⟩
    · exact ⟨h1, mid_of_ends t h2⟩
    · exact h1
  · exact fun h1 => .inr (.inr (.inr h1))
theorem Idem.turn (h : Idem n M) : Idem n (trM n M) := fun x ox => by
  rw [trM_cel ox ox]
  exact h x ox
theorem swR_in : ∀ r ∈ R9s, swR r ∈ R9s ∧ swR (swR r) = r := by decide +kernel
theorem turn_kept (t : Tbl n M) : ∀ r ∈ R9s, keptP n M r → keptP n (trM n M) (swR r) := by
  intro r hr h
  have tt := trM_tbl t
  unfold R9s at hr
  simp only [List.mem_cons, List.not_mem_nil, or_false] at hr
  have w1 : swR "grouping" = "grouping" ∧ swR "order" = "order" ∧ swR "middle" = "middle" ∧ swR "first" = "last" ∧ swR "last" = "first" ∧ swR "ends" = "ends" ∧ swR "keep" = "take" ∧ swR "take" = "keep" ∧ swR "vanish" = "vanish" := by decide +kernel
  obtain ⟨w1, w2, w3, w4, w5, w6, w7, w8, w9⟩ := w1
  rcases hr with rfl | rfl | rfl | rfl | rfl | rfl | rfl | rfl | rfl
  · rw [w1]
    simp only [keptP, if_true] at h ⊢
    exact h.turn t
  · rw [w2]
    simp (config := { decide := true }) only [keptP, ShortP, shortP, if_true, if_false, or_self] at h ⊢
    exact fun x ox y oy => by rw [trM_cel ox oy, trM_cel oy ox]; exact (h x ox y oy).symm
  · rw [w3, mid_eq tt]
    rw [mid_eq t] at h
    obtain ⟨⟨hg, hi⟩, hm⟩ := h
    refine ⟨⟨hg.turn t, hi.turn⟩, fun x ox y oy z oz => ?_⟩
    have yx := t.cel_ok oy ox
    have xyx := t.cel_ok ox yx
    have zyx := t.cel_ok oz yx
    have zxyx := t.cel_ok oz xyx
    rw [trM_cel ox oy, trM_cel yx ox, trM_cel xyx oz, trM_cel zxyx ox, trM_cel yx oz, trM_cel zyx ox]
    have := hm x ox z oz y oy
    have xz := t.cel_ok ox oz
    rw [hg _ (t.cel_ok xz ox) y oy x ox, hg _ xz x ox _ yx, hg x ox z oz _ xyx, hg _ xz y oy x ox, hg x ox z oz _ yx] at this
    exact this
  · rw [w4]
    simp (config := { decide := true }) only [keptP, ShortP, shortP, if_true, if_false, or_self, or_true, true_or] at h ⊢
    refine ⟨⟨h.1.1.turn t, h.1.2.turn⟩, fun x ox y oy => ?_⟩
    rw [trM_cel ox oy, trM_cel (t.cel_ok oy ox) ox, trM_cel oy ox, ← h.1.1 x ox y oy x ox]
    exact h.2 x ox y oy
  · rw [w5]
    simp (config := { decide := true }) only [keptP, ShortP, shortP, if_true, if_false, or_self, or_true, true_or] at h ⊢
    refine ⟨⟨h.1.1.turn t, h.1.2.turn⟩, fun x ox y oy => ?_⟩
    rw [trM_cel ox oy, trM_cel (t.cel_ok oy ox) ox, ← h.1.1 x ox y oy x ox]
    exact h.2 x ox y oy
  · rw [w6]
    simp (config := { decide := true }) only [keptP, ShortP, shortP, if_true, if_false, or_self, or_true, true_or] at h ⊢
    refine ⟨⟨h.1.1.turn t, h.1.2.turn⟩, fun x ox y oy z oz => ?_⟩
    rw [trM_cel ox oy, trM_cel (t.cel_ok oy ox) oz, trM_cel ox oz, ← h.1.1 z oz y oy x ox]
    exact h.2 z oz y oy x ox
  · rw [w7]
    simp (config := { decide := true }) only [keptP, ShortP, shortP, if_true, if_false, or_self] at h ⊢
    exact fun x ox y oy => by rw [trM_cel ox oy]; exact h y oy x ox
  · rw [w8]
    simp (config := { decide := true }) only [keptP, ShortP, shortP, if_true, if_false, or_self] at h ⊢
    exact fun x ox y oy => by rw [trM_cel ox oy]; exact h y oy x ox
  · rw [w9]
    simp (config := { decide := true }) only [keptP, ShortP, shortP, if_true, if_false, or_self] at h ⊢
    refine ⟨h.1.turn t, fun x ox => ⟨fun y oy => ?_, fun y oy => ?_⟩⟩
    · rw [trM_cel ox ox, trM_cel (t.cel_ok ox ox) oy, ← h.1 y oy x ox x ox]
      exact (h.2 x ox).2 y oy
    · rw [trM_cel oy ox, trM_cel (t.cel_ok ox oy) ox, ← h.1 x ox x ox y oy]
      exact (h.2 x ox).1 y oy
theorem turned_rules (t : Tbl n M) (hn : 1 ≤ n) : rulesKept (trM n M) = R9s.filter fun r => decide (r ∈ (rulesKept M).map swR) := by
  have tt := trM_tbl t
  unfold rulesKept
  refine List.filter_congr fun r hr => ?_
  obtain ⟨s1, s2⟩ := swR_in r hr
  have key : firstBreak (trM n M) r = none ↔ firstBreak M (swR r) = none := by
    rw [← kept_eq tt hn r hr, ← kept_eq t hn (swR r) s1]
    constructor
    · intro h
      have := turn_kept tt r hr h
      rwa [trM_trM t] at this
    · intro h
      have := turn_kept t (swR r) s1 h
      rwa [s2] at this
  rw [Bool.eq_iff_iff, decide_eq_true_iff, Option.isNone_iff_eq_none, key, List.mem_map]
  constructor
  · intro h
    exact ⟨swR r, List.mem_filter.mpr ⟨s1, by rw [h]; rfl⟩, s2⟩
  · rintro ⟨r', h1, rfl⟩
    obtain ⟨h1, h2⟩ := List.mem_filter.mp h1
    rw [(swR_in r' h1).2]
    exact Option.isNone_iff_eq_none.mp h2
theorem setM_cel (t : Tbl n M) {a b z : Int} (oa : OkV n a) (ob : OkV n b) {x y : Int} (ox : OkV n x) (oy : OkV n y) : cel (setM M a b z) x y = if x = a ∧ y = b then z else cel M x y := by
  have al : a.toNat < M.length := by rw [t.len]; exact (okv_nat oa).1
  unfold cel
  by_cases h : x = a
  · subst h
    have hr : rowOf (setM M x b z) x = (rowOf M x).set b.toNat z := by
      unfold setM
      show List.getD _ _ _ = _
      rw [List.getD_eq_getElem?_getD, List.getElem?_set_self al]
      rfl
    rw [hr, List.getD_eq_getElem?_getD]
    by_cases h2 : y = b
    · subst h2
      rw [if_pos ⟨rfl, rfl⟩, List.getElem?_set_self (by rw [t.len_row ox]; exact (okv_nat oy).1)]
      rfl
    · rw [if_neg fun w => h2 w.2, List.getElem?_set_ne, ← List.getD_eq_getElem?_getD]
      intro w
      have h3 := (okv_nat oy).2
      have h4 := (okv_nat ob).2
      rw [w] at h4
      exact h2 (h3.symm.trans h4)
  · have hr : rowOf (setM M a b z) x = rowOf M x := by
      unfold setM
      show List.getD _ _ _ = List.getD _ _ _
      rw [List.getD_eq_getElem?_getD, List.getElem?_set_ne, ← List.getD_eq_getElem?_getD]
      intro w
      have h3 := (okv_nat ox).2
      have h4 := (okv_nat oa).2
      rw [w] at h4
      exact h (h3.symm.trans h4)
    rw [hr, if_neg fun w => h w.1]
end
end Fd

namespace Fp
open PySem PySem.Spec PyProof.Rows L2
/-! x op y by an own method that may raise -/
def rOwn2X (C : Addr) (sp : Sp) (E : XK) : R2 := fun x y H Q => ∃ a dx fs b dy gs, x = .ref a ∧ y = .ref b ∧ H a = some (.ins C dx fs) ∧ H b = some (.ins C dy gs) ∧ sp [.ref a, .ref b] H Q E
theorem op_ownBinX {X : Cx} {k : Nat} {C : Addr} {ps : List Str} {sp : Sp} {E : XK} {op : Operator} (hc : PySem.W.selfFirst X.K C = true) (M : Fd.Me X.prog X.w X.K X.mg X.base k C (PySem.dunder op.info.2) ps sp) (hr : Room k X.A) (hx : Passes (L2.CX X.prog X.w) X E) : OpR X (binaryOp op) (rOwn2X C sp E) := by
  intro pins s σ H x y v u Q I rx ry h
  obtain ⟨a, dx, fs, b, dy, gs, rfl, rfl, ha, hb, q⟩ := h
  obtain rfl : v = Value.ref a := rx
  obtain rfl : u = Value.ref b := ry
  obtain ⟨g, fd, h1, h2, h3⟩ := M
  obtain ⟨od, J⟩ := inst_of I ha
  obtain ⟨od', J'⟩ := inst_of I hb
  obtain ⟨m, hF⟩ := I.fr
  refine PySem.W.binop_K (op := op) hF I.ok.mod.kin J J'.type hc h1.at_ h1.fn ?_
  refine wpAny_mono (run_fn (us := [.ref a, .ref b]) (vs := [.ref a, .ref b]) (dvs := []) h3 hr h2 .nil hx I (.cons rfl (.cons rfl .nil)) q) (fun w s' z => ?_) fun _ _ x => x
  obtain ⟨z', H', I', rz, qz⟩ := z
  exact SlX.cmpback rz ⟨z', H', I', rz, qz⟩
/-- .. what is raised met with the names as they stand -/
def tOp2O (C : Addr) (sp : Sp) (E : L2.St → XK) (ta tb : TE) : TE := fun σ H Q => ta σ H fun x H1 => tb σ H1 fun y H2 => rOwn2X C sp (E σ) x y H2 Q
theorem pe_op2O {X : Cx} {W : WX} {k : Nat} {C : Addr} {ps : List Str} {sp : Sp} {op : Operator} {e e2 : Expr} {ta tb : TE} {pos : Pos} (hc : PySem.W.selfFirst X.K C = true) (M : Fd.Me X.prog X.w X.K X.mg X.base k C (PySem.dunder op.info.2) ps sp) (hr : Room k X.A) (tk : Takes X W) (ha : PE X e ta) (hb : PE X e2 tb) : PE X (.BinOp e op e2 pos) (tOp2O C sp (WE W) ta tb) := by
  refine ⟨fun pins s σ H Q I h => ?_⟩
  refine wpAny_BinOp (L2.binT ha hb I h fun v u s2 x y H2 I2 rx ry q => ?_)
  obtain ⟨a, dx, fs, b, dy, gs, rfl, rfl, ha, hb, q⟩ := q
  obtain rfl : v = Value.ref a := rx
  obtain rfl : u = Value.ref b := ry
  obtain ⟨g, fd, h1, h2, h3⟩ := M
  obtain ⟨od, J⟩ := inst_of I2 ha
  obtain ⟨od', J'⟩ := inst_of I2 hb
  obtain ⟨m, hF⟩ := I2.fr
  refine PySem.W.binop_K (op := op) hF I2.ok.mod.kin J J'.type hc h1.at_ h1.fn ?_
  refine wpAny_mono (run_fnS (us := [.ref a, .ref b]) (vs := [.ref a, .ref b]) h3 hr h2 (passAt tk σ) I2 (.cons rfl (.cons rfl .nil)) q) (fun w s' z => ?_) fun _ _ x => x
  obtain ⟨z', H', I', rz, qz⟩ := z
  exact SlX.cmpback rz ⟨z', H', I', rz, qz⟩
end Fp
namespace Fd
open PySem PySem.Spec PyProof.Rows L2 Fp
section
variable {K : PySem.W.Frag} {lv st : Bool} {W : Wd} {δ δ1 δ2 : List SV} {t : Nat} {a b u : TS} {R S : Out → Nat → Prop} {te ta tb : TE} {ti ti1 : TI} {tr : TA} {tt : TT} {d x y : PyData} {ds es xs : List PyData} {i j l m k : Nat} {g g1 : TG} {c : Bool} {n : Nat} {M N : List (List Int)} {v : Int} {C : Addr} {kvs kvs' : List (PyData × PyData)}
/-! ### a new thing comes -/
def EvN (K : PySem.W.Frag) (δ : List SV) (te : TE) (G : OV → Prop) : Prop := ∀ (Z : Zs) (H : Hp) (σ : L2.St), Al Z H → Rel K Z H σ δ → ∀ Q : VK, (∀ p x H', Same H H' → G x → flatO x = true → (∀ Hh, OvAt K Hh H' p x) → (∀ a ∈ x.adrs p, H a = none) → (x.adrs p).Nodup → Q (.ref p) H') → te σ H Q
theorem evn_callVO {P : List PyData → Prop} {G : List PyData → OV → Prop} (h : EvA K lv δ tr ds) (hP : P ds) (hf : ∀ x, G ds x → flatO x = true) : EvN K δ (tCall (spVO K P G) [] E0 tr) (G ds) := fun Z H σ al r Q q =>
  h Z H σ al r _ fun vs H1 e1 hv => by
    rw [List.append_nil]
    refine ⟨Zl lv Z δ, ds, (r.all al lv).same e1, hv, hP, fun p x H2 e2 hg ho hn nd => ?_⟩
    exact q p x H2 (e1.trans e2) hg (hf x hg) (fun Hh => ho.flat (hf x hg)) (fun a ha => (Frm.of (M := fun _ => false) e1).none (hn a ha)) nd
/-- what an own method hands back: a new thing, or an error -/
def spVOX (K : PySem.W.Frag) (P : List PyData → Prop) (G : List PyData → OV → Prop) (F : List PyData → Addr → Str → PyData → Prop) : Sp := fun vs H Q E => ∃ (Z : Zs) (ds : List PyData), Al Z H ∧ Dvs K (hid Z H) vs ds ∧
  ((P ds ∧ ∀ p x H', Same H H' → G ds x → OvAt K (hid (fun a => Z a || decide (a ∈ x.adrs p)) H') H' p x → (∀ a ∈ x.adrs p, H a = none) → (x.adrs p).Nodup → Q (.ref p) H') ∨
    ∃ CE f x, F ds CE f x ∧ ∀ dd v H', H dd = none → Same H H' → H' dd = some (.xd [(f, v)]) → Dv K (hid Z H') v x → E (.ref CE) (some dd) H')
theorem evn_op2 {E : XK} {P : List PyData → Prop} {G : List PyData → OV → Prop} {F : List PyData → Addr → Str → PyData → Prop} (h : Ev K lv δ ta (iD C kvs)) (h2 : Ev K lv δ tb (iD C kvs')) (hP : P [iD C kvs, iD C kvs']) (hf : ∀ x, G [iD C kvs, iD C kvs'] x → flatO x = true) : EvN K δ (tOp (rOwn2X C (spVOX K P G F) E) ta tb) (G [iD C kvs, iD C kvs']) := fun Z H σ al r Q q =>
  h Z H σ al r _ fun v H1 e1 hv => h2 Z H1 σ (al.same e1) (r.same e1) _ fun w H2 e2 hw => by
    have hv := hv.same (same_hid e2)
    obtain ⟨a, dx, fs, rfl, ha, _⟩ := inst_hid hv
    obtain ⟨b, dy, gs, rfl, hb, _⟩ := inst_hid hw
    refine ⟨a, dx, fs, b, dy, gs, rfl, rfl, ha, hb, Zl lv Z δ, [iD C kvs, iD C kvs'], (r.all al lv).same (e1.trans e2), .cons hv (.cons hw .nil), .inl ⟨hP, fun p x H3 e3 hg ho hn nd => ?_⟩⟩
    exact q p x H3 ((e1.trans e2).trans e3) hg (hf x hg) (fun Hh => ho.flat (hf x hg)) (fun a ha => (Frm.of (M := fun _ => false) (e1.trans e2)).none (hn a ha)) nd
theorem new_slot {Z : Zs} {H H' : Hp} {σ : L2.St} {p : Addr} {x : OV} (al : Al Z H) (r : Rel K Z H σ δ) (e : Same H H') (f : flatO x = true) (ho : ∀ Hh, OvAt K Hh H' p x) (hn : ∀ a ∈ x.adrs p, H a = none) (nd : (x.adrs p).Nodup) (hi : i < δ.length) : Rel K Z H' (σ.set i (some (.ref p))) (δ.set i (.o p x)) ∧ ∀ b ∈ own (δ.set i (.o p x)), b ∈ own δ ∨ H b = none :=
  ⟨r.mine al e hn nd (fun Hh s => ho Hh) hi, fun b hb => by
    rcases own_set δ i b hb with w | w
    · exact .inr (hn b w)
    · exact .inl w⟩
/-- x = (a new thing) -/
theorem sw_asgN {G : OV → Prop} (h : EvN K δ te G) (hi : i < δ.length) (q : ∀ p x, G x → R (.nx (δ.set i (.o p x))) t) : Sw K W δ t (tAsg te (gName i)) R := fun Z H σ D mz al r iw k1 k2 k3 k4 k5 =>
  h Z H σ al r _ fun p x H' e hg f ho hn nd => by
    obtain ⟨h1, h2⟩ := new_slot al r e f ho hn nd hi
    exact k1 _ t _ H' (q p x hg) (Aft.of (Frm.of e) h2) h1 (iw.same e)
/-- x, y = (a new thing, data) -/
theorem sw_tupND {G : OV → Prop} (h : EvN K δ ta G) (h' : Ev K true δ tb y) (hi : i < δ.length) (q : ∀ p x, G x → R (.nx ((δ.set i (.o p x)).set j (.d y))) t) :
    Sw K W δ t (tAsg (tTup (tCons ta (tCons tb tNil))) (gTup K 2 (gCons (gName i) (gCons (gName j) gNil)))) R := fun Z H σ D mz al r iw k1 k2 k3 k4 k5 =>
  h Z H σ al r _ fun p x H2 e12 hg f ho hn' nd => by
    have al2 : Al (fun a => Z a || decide (a ∈ x.adrs p)) H2 := fun a ha => by
      rcases Bool.or_eq_true_iff.mp ha with w | w
      · exact al.same e12 a w
      · exact (ho H2).alive f a (of_decide_eq_true w)
    have r2 : Rel K (fun a => Z a || decide (a ∈ x.adrs p)) H2 σ δ := r.hide (fun b o h _ => e12 b o h) (fun a ha => by
      rcases Bool.or_eq_true_iff.mp ha with w | w
      · exact .inl w
      · exact .inr (hn' a (of_decide_eq_true w))) al
    refine h' _ H2 σ al2 r2 _ fun v H3 e3 hy => ?_
    refine ⟨by show 2 ≤ sizeLine; decide, fun tp htp => ⟨tp, _, rfl, .inl (.inl upd_same), rfl, _, _, rfl, _, _, rfl, rfl, ?_⟩⟩
    have e34 : Same H3 (upd H3 tp (.tup [.ref p, v])) := same_new htp
    have e : Same H (upd H3 tp (.tup [.ref p, v])) := (e12.trans e3).trans e34
    have st : ∀ Hh, OvAt K Hh (upd H3 tp (.tup [.ref p, v])) p x := fun Hh => (ho Hh).mono (Same.refl _) fun a o _ h => e34 a o (e3 a o h)
    obtain ⟨r1, o1⟩ := new_slot al r e f st hn' nd hi
    refine k1 _ t _ _ (q p x hg) (Aft.of (Frm.of e) fun b hb => o1 b (own_put rfl b hb)) (r1.putD (hy.same (hid_sub fun b o hb z => ?_))) (iw.same e)
    have z : Zo (fun a => Z a || decide (a ∈ x.adrs p)) δ b = false := z
    obtain ⟨z1, z2⟩ := zo_f.mp z
    obtain ⟨z1, z3⟩ := Bool.or_eq_false_iff.mp z1
    refine ⟨e34 b o hb, zo_f.mpr ⟨z1, fun m => ?_⟩⟩
    rcases own_set _ i b m with w | w
    · exact (of_decide_eq_false z3) w
    · exact z2 w
/-- x, y = two new things -/
theorem sw_parNN {G G' : OV → Prop} (h : EvN K δ ta G) (h' : EvN K δ tb G') (hi : i < δ.length) (hj : j < δ.length) (q : ∀ p x p' x', G x → G' x' → R (.nx ((δ.set i (.o p x)).set j (.o p' x'))) t) : Sw K W δ t (tPar i j (tCons ta (tCons tb tNil))) R := fun Z H σ D mz al r iw k1 k2 k3 k4 k5 =>
  h Z H σ al r _ fun p x H1 e1 hg f ho hn nd => by
    have r1 := r.same e1
    refine h' Z H1 σ (al.same e1) r1 _ fun p' x' H2 e2 hg' f' ho' hn' nd' => ?_
    have e : Same H H2 := e1.trans e2
    have st : ∀ Hh, OvAt K Hh H1 p x := ho
    obtain ⟨ra, oa⟩ := new_slot al r e1 f ho hn nd hi
    obtain ⟨rb, ob⟩ := new_slot (al.same e1) ra e2 f' ho' hn' nd' (by rw [List.length_set]; exact hj)
    refine ⟨_, _, rfl, k1 _ t _ H2 (q p x p' x' hg hg') (Aft.of (Frm.of e) fun b hb => ?_) rb (iw.same e)⟩
    rcases ob b hb with w | w
    · exact oa b w
    · exact .inr ((Frm.of (M := fun _ => false) e1).none w)
/-! ### a thing of its own that nobody changes any more: data -/
def datO : OV → PyData
  | .mat _ E => mD E
  | .tab C _ _ _ E => tbD C E
  | .lst ds => .list ds
  | .dk es => dkD es
  | _ => .none
theorem dv_flat {Z : Zs} {H : Hp} {p : Addr} {x : OV} (f : flatO x = true) (h : ∀ Hh, OvAt K Hh H p x) (z : ∀ a ∈ x.adrs p, Z a = false) : Dv K (hid Z H) (.ref p) (datO x) := by
  cases x with
  | mat rs E => exact mat_dv (h H) z
  | tab C dx R rs E => exact dv_tab (h (hid Z H)) z
  | lst _ => cases f
  | dk _ => cases f
  | dt _ => cases f
  | two _ _ => cases f
theorem Rel.frz {Z : Zs} {H : Hp} {σ : L2.St} {p : Addr} {x : OV} (r : Rel K Z H σ δ) (h : δ[i]? = some (.o p x)) (f : flatO x = true) : Rel K Z H σ (δ.set i (.d (datO x))) := by
  have sub := own_sub (s := .d (datO x)) rfl δ i
  have hz : Same (hid (Zo Z δ) H) (hid (Zo Z (δ.set i (.d (datO x)))) H) := zo_sub sub
  refine ⟨by rw [List.length_set]; exact r.len, fun k s hs => ?_, r.nd.sublist sub, fun p hp => r.off p (sub.subset hp)⟩
  by_cases e : i = k
  · subst e
    rw [List.getElem?_set_self (List.getElem?_eq_some_iff.mp h).1] at hs
    cases hs
    obtain ⟨h1, h2⟩ := r.ok i _ h
    refine ⟨_, h1, dv_flat f (fun Hh => h2.flat f) fun a ha => zo_f.mpr ⟨r.off a (own_in h ha), fun m => ?_⟩⟩
    have : own (δ.set i (.d (datO x))) = own (δ.set i .u) := own_eq (s := .d (datO x)) (t := .u) rfl _ _ (by rw [List.getElem?_set_self (List.getElem?_eq_some_iff.mp h).1]) ▸ by rw [List.set_set]
    rw [this] at m
    exact own_gone r.nd h ha m
  · rw [List.getElem?_set_ne e] at hs
    have g := r.ok k s hs
    cases s with
    | u => trivial
    | d d =>
      obtain ⟨v, h1, h2⟩ := g
      exact ⟨v, h1, h2.same hz⟩
    | b d => exact g
    | v v => exact g
    | o p ov => exact ⟨g.1, g.2.mono hz fun _ _ _ e => e⟩
theorem Sw.sub {δ' : List SV} (hr : ∀ {Z : Zs} {H : Hp} {σ : L2.St}, Rel K Z H σ δ → Rel K Z H σ δ') (ho : (own δ').Sublist (own δ)) (s : Sw K W δ' t a R) : Sw K W δ t a R := fun Z H σ D mz al r iw h1 h2 h3 h4 h5 => by
  have fa : ∀ {δ2 : List SV} {H' : Hp}, Aft W δ' δ2 H H' → Aft W δ δ2 H H' := fun {δ2 H'} f => ⟨⟨fun b o hb m => f.frm.keep b o hb (by
    obtain ⟨m1, m2⟩ := mo_f.mp m
    exact mo_f.mpr ⟨m1, fun w => m2 (ho.subset w)⟩), f.frm.al⟩, fun p hp => (f.new p hp).imp (fun w => ho.subset w) id⟩
  have fm : ∀ {H' : Hp}, Frm (Mo W δ') H H' → Frm (Mo W δ) H H' := fun {H'} f => ⟨fun b o hb m => f.keep b o hb (by
    obtain ⟨m1, m2⟩ := mo_f.mp m
    exact mo_f.mpr ⟨m1, fun w => m2 (ho.subset w)⟩), f.al⟩
  exact s Z H σ D mz al (hr r) iw (fun δ2 t' σ' H' q f => h1 δ2 t' σ' H' q (fa f)) (fun d t' v H' q f => h2 d t' v H' q (fm f)) (fun δ2 t' σ' H' q f => h3 δ2 t' σ' H' q (fa f)) (fun δ2 t' σ' H' q f => h4 δ2 t' σ' H' q (fa f))
    (fun p x t' H' q f i n => h5 p x t' H' q (fm f) i ⟨n.ok, fun a ha => (n.new a ha).imp (fun w => ho.subset w) id, n.nd, n.off⟩)
theorem Sw.frz {p : Addr} {x : OV} (h : δ[i]? = some (.o p x)) (f : flatO x = true) (s : Sw K W (δ.set i (.d (datO x))) t a R) : Sw K W δ t a R := s.sub (fun r => r.frz h f) (own_sub rfl δ i)
/-- C(n), read as data -/
theorem ev_makeT {E : XK} (h : Ev K lv δ te (.int (n : Nat))) (h1 : 1 ≤ n) (h2 : n ≤ 60) : Ev K lv δ (tMake C (spTN C) [] E (tCons te tNil)) (tbD C (zeroM n)) := fun Z H σ al r Q q =>
  h Z H σ al r _ fun v H1 e1 hv => by
    cases hv
    intro x dx hx hdx ne
    refine ⟨x, dx, n, rfl, upd_same, h1, h2, fun A rs H' e2 hn nd hp hm => ⟨rfl, ?_⟩⟩
    have f1 : ∀ b, b ≠ x → b ≠ dx → upd (upd H1 dx (.own x)) x (.ins C dx []) b = H1 b := fun b n1 n2 => by rw [upd_ne n1, upd_ne n2]
    have e : Same H1 H' := fun b o hb => by
      have n1 : b ≠ x := fun w => by rw [w, hx] at hb; cases hb
      have n2 : b ≠ dx := fun w => by rw [w, hdx] at hb; cases hb
      exact e2 b o (by rw [f1 b n1 n2]; exact hb) n1
    have alz : Al (Zl lv Z δ) H1 := (r.all al lv).same e1
    have hA : ∀ a ∈ A :: rs, Zl lv Z δ a = false := fun a ha => by
      have h0 := hn a ha
      have n1 : a ≠ x := fun w => by rw [w, upd_same] at h0; cases h0
      have n2 : a ≠ dx := fun w => by rw [w, upd_ne ne, upd_same] at h0; cases h0
      rw [f1 a n1 n2] at h0
      exact alz.off h0
    refine q _ H' (e1.trans e) (dv_tab (dx := dx) (A := A) (rs := rs) ⟨by rw [zero_len]; exact hp, hm⟩ fun a ha => ?_)
    rcases List.mem_cons.mp ha with w | w
    · rw [w]; exact alz.off hx
    · exact hA a w
/-! ### [.. for .. in .. for .. in ..] -/
theorem ev_lc2 {α β : Type} {as : List α} {bs : α → List β} {dat : α → PyData} {dat2 : β → PyData} {fv : α → β → PyData} {vs vs1 : List Nat} (hi : EvI K lv true δ ti (as.map dat)) (hu : vs.all (fun j => (δ.getD j .u).isU) = true) (hn : (as.flatMap bs).length < 100000)
    (hs : ∀ a, a ∈ as → ∃ δ', own δ' = own δ ∧ Tg K lv δ vs g (dat a) δ' ∧ EvI K lv true δ' ti1 ((bs a).map dat2) ∧ vs1.all (fun j => (δ'.getD j .u).isU) = true ∧ ∀ b, b ∈ bs a → ∃ δ'', own δ'' = own δ' ∧ Tg K lv δ' vs1 g1 (dat2 b) δ'' ∧ Ev K lv δ'' te (fv a b)) :
    Ev K lv δ (tLc2 ti g tYes ti1 g1 tYes te vs vs1) (.list (as.flatMap fun a => (bs a).map (fv a))) := fun Z H σ al r Q q => by
  refine hi Z H σ al r _ fun J H1 e1 jd => ?_
  have al1 := al.same e1
  have r1 := r.same e1
  intro D hD
  let pre : Nat → List PyData := fun i => (as.take i).flatMap fun a => (bs a).map (fv a)
  let Pv : List PyData → Hp → Prop := fun ds H' => Same H1 H' ∧ ∃ acc, H' D = some (.lst acc) ∧ Dvs K (hid (Zl lv (addZ Z D) δ) H') acc ds
  have hZ : ∀ b, addZ Z D b = true → Z b = true ∨ H1 b = none := fun b hb => (addZ_t hb).imp id fun w => by rw [w]; exact hD
  have hal : ∀ {H' : Hp} {acc : List V}, Same H1 H' → H' D = some (.lst acc) → Al (addZ Z D) H' := fun {H' acc} p1 p2 b hb => by
    rcases addZ_t hb with w | w
    · exact al1.same p1 b w
    · rw [w, p2]; intro z; cases z
  have pre1 : ∀ {i : Nat} {a : α}, as[i]? = some a → pre (i + 1) = pre i ++ (bs a).map (fv a) := fun {i a} ha => by
    show List.flatMap _ (as.take (i + 1)) = _
    rw [List.take_add_one, ha, List.flatMap_append]
    simp [pre]
  have lpre : ∀ {i j : Nat} {a : α}, as[i]? = some a → j < (bs a).length → (pre i ++ ((bs a).take j).map (fv a)).length < 100000 := fun {i j a} ha hj => by
    refine Nat.lt_of_le_of_lt ?_ hn
    have e : as = as.take i ++ a :: as.drop (i + 1) := by
      obtain ⟨hl, rfl⟩ := List.getElem?_eq_some_iff.mp ha
      rw [← List.drop_eq_getElem_cons hl, List.take_append_drop]
    have e2 : (as.flatMap bs).length = ((as.take i).flatMap bs).length + ((bs a).length + ((as.drop (i + 1)).flatMap bs).length) := by
      conv => lhs; rw [e]
      rw [List.flatMap_append, List.flatMap_cons, List.length_append, List.length_append]
    have e3 : (pre i).length = ((as.take i).flatMap bs).length := by
      show (List.flatMap _ _).length = _
      rw [List.length_flatMap, List.length_flatMap]
      congr 1
      refine List.map_congr_left fun x _ => ?_
      show ((bs x).map (fv x)).length = _
      rw [List.length_map]
    rw [List.length_append, List.length_map, List.length_take, e2, e3]
    omega
  refine ⟨fun i m H' => m = as.length - i ∧ i ≤ as.length ∧ Pv (pre i) H', ⟨as.length, by simp, Nat.zero_le _, same_new hD, [], upd_same, .nil⟩, ?_⟩
  rintro i m H2 ⟨rfl, hi', p1, acc, p2, p3⟩
  by_cases hlt : i < as.length
  · right
    have ha : as[i]? = some as[i] := List.getElem?_eq_getElem hlt
    have hd : (as.map dat)[i]? = some (dat as[i]) := by rw [List.getElem?_map, ha]; rfl
    generalize as[i] = a at ha hd
    refine ⟨jd.go i H2 (Stb.of p1) (by rw [List.length_map]; exact hlt), Pv (pre (i + 1)), fun H' p => ⟨as.length - (i + 1), by omega, rfl, hlt, p⟩, fun x H' y => ?_⟩
    obtain ⟨e2, hx⟩ := jd.yld i H2 x H' _ (Stb.of p1) hd y
    obtain ⟨δ', ho, htg, hi1, hu1, hs1⟩ := hs a (List.mem_of_getElem? ha)
    have al2 := hal p1 p2
    have r2 : Rel K (addZ Z D) H' (L2.wipe σ vs) δ := (r1.hide (fun b o h _ => p1.trans e2 b o h) hZ al1).wipe hu
    have hx2 : Dv K (hid (Zl lv (addZ Z D) δ) H') x (dat a) := hx (Zl lv (addZ Z D) δ) (fun b hb => zl_add hZ b hb) ((r1.hide (fun b o h _ => p1 b o h) hZ al1).all al2 lv)
    refine htg (addZ Z D) H' (L2.wipe σ vs) x (al2.same e2) r2 hx2 _ fun σ2 r3 w3 => ⟨w3.trans wipe_wipe, ?_⟩
    dsimp only [tYes]
    rw [if_pos rfl]
    refine hi1 (addZ Z D) H' σ2 (al2.same e2) r3 _ fun J1 H4 e4 jd1 => ?_
    have e24 : Same H2 H4 := e2.trans e4
    have p14 : Same H1 H4 := p1.trans e24
    have al4 : Al (addZ Z D) H4 := hal p14 (e24 _ _ p2)
    have r4 : Rel K (addZ Z D) H4 σ2 δ' := r3.same e4
    have hzl : Zl lv (addZ Z D) δ' = Zl lv (addZ Z D) δ := by unfold Zl Zo; rw [ho]
    refine ⟨fun j k H5 => k = (bs a).length - j ∧ j ≤ (bs a).length ∧ (∀ b o, H4 b = some o → b ≠ D → H5 b = some o) ∧ Pv (pre i ++ ((bs a).take j).map (fv a)) H5, ⟨(bs a).length, by simp, Nat.zero_le _, fun b o h _ => h, p14, acc, e24 _ _ p2, by
      rw [List.take_zero, List.map_nil, List.append_nil]
      exact p3.same (same_hid e24)⟩, ?_⟩
    rintro j k H5 ⟨rfl, hj, k5, p5, acc5, q5, s5⟩
    have nD : ∀ {b : Addr}, Zl lv (addZ Z D) δ' b = false → b ≠ D := fun {b} z w => by
      have := zl_out z
      rw [w] at this
      unfold addZ at this
      rw [decide_eq_true rfl, Bool.or_true] at this
      cases this
    have st5 : Stb true (Zl lv (addZ Z D) δ') H4 H5 := by
      unfold Stb
      rw [if_pos rfl]
      exact fun b o h z => k5 b o h (nD z)
    by_cases hjl : j < (bs a).length
    · right
      have hb : (bs a)[j]? = some (bs a)[j] := List.getElem?_eq_getElem hjl
      generalize (bs a)[j] = b at hb
      have hd1 : ((bs a).map dat2)[j]? = some (dat2 b) := by rw [List.getElem?_map, hb]; rfl
      have al5 : Al (addZ Z D) H5 := hal p5 q5
      have nA : ∀ {c : Addr}, addZ Z D c = false → c ≠ D := fun {c} z w => by
        rw [w] at z
        unfold addZ at z
        rw [decide_eq_true rfl, Bool.or_true] at z
        cases z
      have r45 : Rel K (addZ Z D) H5 σ2 δ' := r4.hide (fun c o h z => k5 c o h (nA z)) (fun c hc => .inl hc) al4
      refine ⟨jd1.go j H5 st5 (by rw [List.length_map]; exact hjl), fun H' => (∀ c o, H4 c = some o → c ≠ D → H' c = some o) ∧ Pv (pre i ++ ((bs a).take (j + 1)).map (fv a)) H', fun H' p => ⟨(bs a).length - (j + 1), by omega, rfl, hjl, p⟩, fun y H6 hy => ?_⟩
      obtain ⟨e6, hy6⟩ := jd1.yld j H5 y H6 _ st5 hd1 hy
      obtain ⟨δ'', ho2, htg2, hte⟩ := hs1 b (List.mem_of_getElem? hb)
      have hy7 : Dv K (hid (Zl lv (addZ Z D) δ') H6) y (dat2 b) := hy6 (Zl lv (addZ Z D) δ') (fun c hc => .inl hc) (r45.all al5 lv)
      refine htg2 (addZ Z D) H6 (L2.wipe σ2 vs1) y (al5.same e6) ((r45.same e6).wipe hu1) hy7 _ fun σ3 r7 w7 => ⟨w7.trans wipe_wipe, ?_⟩
      dsimp only [tYes]
      rw [if_pos rfl]
      refine hte (addZ Z D) H6 σ3 (al5.same e6) r7 _ fun v H7 e7 hv => ?_
      have e57 : Same H5 H7 := e6.trans e7
      have hz2 : Zl lv (addZ Z D) δ'' = Zl lv (addZ Z D) δ := by rw [← hzl]; unfold Zl Zo; rw [ho2]
      rw [hz2] at hv
      have mv : ∀ {o : HO}, Same (hid (Zl lv (addZ Z D) δ) H7) (hid (Zl lv (addZ Z D) δ) (upd H7 D o)) := fun {o} => hid_sub fun c o hc z => ⟨by
        rw [upd_ne (by rw [← hzl] at z; exact nD z)]
        exact hc, z⟩
      refine ⟨acc5, e57 _ _ q5, ?_, fun c o h nc => ?_, Same.mut (p5.trans e57) hD, acc5 ++ [v], upd_same, ?_⟩
      · rw [s5.len]
        exact Nat.lt_of_lt_of_le (lpre ha hjl) (by decide)
      · rw [upd_ne nc]
        exact e57 _ _ (k5 c o h nc)
      · rw [List.take_add_one, hb, List.map_append, ← List.append_assoc]
        exact ((s5.same (same_hid e57)).same mv).app (.cons (hv.same mv) .nil)
    · left
      have ej : j = (bs a).length := by omega
      subst ej
      refine ⟨jd1.stop _ H5 st5 (by rw [List.length_map]; exact Nat.le_refl _), ?_⟩
      rw [List.take_length] at s5
      show Pv (pre (i + 1)) H5
      rw [pre1 ha]
      exact ⟨p5, acc5, q5, s5⟩
  · left
    have ei : i = as.length := by omega
    subst ei
    refine ⟨jd.stop _ H2 (Stb.of p1) (by rw [List.length_map]; exact Nat.le_refl _), ?_⟩
    have ep : pre as.length = as.flatMap fun a => (bs a).map (fv a) := by show List.flatMap _ (as.take as.length) = _; rw [List.take_length]
    rw [ep] at p3
    have alD : Zl lv Z δ D = false := (r1.all al1 lv).off hD
    exact q _ H2 (e1.trans p1) (.lst (hid_in p2 alD) (p3.same zl_back))
/-- a body that hands back a new thing, run -/
theorem sw_runO {ts : TS} {N ps : List Str} {Z : Zs} {H : Hp} {vs : List V} {D : Ends} {G : OV → Prop} (hw : Sw K none (ds.map SV.d ++ List.replicate (N.length - ps.length) .u) 0 ts (FinM fun x _ => G x)) (al : Al Z H) (hv : Dvs K (hid Z H) vs ds) (hl : ds.length = ps.length) (hN : ps.length ≤ N.length)
    (q : ∀ p x H', Same H H' → G x → OvAt K (hid (fun a => Z a || decide (a ∈ x.adrs p)) H') H' p x → (∀ a ∈ x.adrs p, H a = none) → (x.adrs p).Nodup → D.rt (.ref p) H') : ts D (start N vs) H := by
  refine hw Z H _ _ ⟨fun a h => (nomatch h), fun pc h => (nomatch h)⟩ al (rel_start hv hl hN) trivial (fun δ' t' σ' H' e f r i => e.elim) (fun d' t' v H' e f i hv' => e.elim) (fun δ' t' σ' H' e => e.elim) (fun δ' t' σ' H' e => e.elim) (fun p x t' H' e f i nw => ?_)
  refine q p x H' (fun b o hb => f.keep b o hb (mo_f.mpr ⟨rfl, by rw [own_d]; simp⟩)) e nw.ok (fun a ha => ?_) nw.nd
  rcases nw.new a ha with w | w
  · rw [own_d] at w; simp at w
  · exact w
end
end Fd

/-! products of tables -/
namespace Fd
open PySem PySem.Spec PyProof.Rows L2 Fp
section
variable {n m : Nat} {A B : List (List Int)}
def prM (n m : Nat) (A B : List (List Int)) : List (List Int) := (span (n * m)).map fun k => (span (n * m)).map fun l => cel A (k / (m : Int)) (l / (m : Int)) * (m : Int) + cel B (k % (m : Int)) (l % (m : Int))
theorem dm {k : Int} (hm : 1 ≤ m) (h : OkV ((n * m : Nat) : Int) k) : OkV n (k / (m : Int)) ∧ OkV m (k % (m : Int)) := by
  have pm : (0 : Int) < m := by omega
  refine ⟨⟨Int.ediv_nonneg h.1 (by omega), ?_⟩, ⟨Int.emod_nonneg _ (by omega), Int.emod_lt_of_pos _ pm⟩⟩
  refine Int.ediv_lt_of_lt_mul pm ?_
  have := h.2
  rw [Int.natCast_mul] at this
  exact this
theorem md {a b : Int} (hm : 1 ≤ m) (ha : OkV n a) (hb : OkV m b) : OkV ((n * m : Nat) : Int) (a * m + b) ∧ (a * m + b) / (m : Int) = a ∧ (a * m + b) % (m : Int) = b := by
  have pm : (0 : Int) < m := by omega
  obtain ⟨a1, a2⟩ := ha
  obtain ⟨b1, b2⟩ := hb
  refine ⟨⟨?_, ?_⟩, ?_, ?_⟩
  · have := Int.mul_nonneg a1 (Int.le_of_lt pm)
    omega
  · rw [Int.natCast_mul]
    have h1 : a * m ≤ ((n : Int) - 1) * m := Int.mul_le_mul_of_nonneg_right (by omega) (Int.le_of_lt pm)
    rw [Int.sub_mul, Int.one_mul] at h1
    omega
  · rw [Int.add_comm, Int.add_mul_ediv_right _ _ (by omega), Int.ediv_eq_zero_of_lt b1 b2, Int.zero_add]
  · rw [Int.add_comm, Int.add_mul_emod_self_right, Int.emod_eq_of_lt b1 b2]
theorem prM_cel {x y : Int} (ox : OkV ((n * m : Nat) : Int) x) (oy : OkV ((n * m : Nat) : Int) y) : cel (prM n m A B) x y = cel A (x / (m : Int)) (y / (m : Int)) * (m : Int) + cel B (x % (m : Int)) (y % (m : Int)) := by
  have hr : rowOf (prM n m A B) x = (span (n * m)).map fun l => cel A (x / (m : Int)) (l / (m : Int)) * (m : Int) + cel B (x % (m : Int)) (l % (m : Int)) := by
    obtain ⟨i, rfl⟩ : ∃ i : Nat, x = i := ⟨x.toNat, by have := ox.1; omega⟩
    have hi : i < n * m := by unfold OkV at ox; omega
    unfold rowOf prM
    rw [Int.toNat_natCast, List.getD_eq_getElem?_getD, List.getElem?_map, span_at hi]
    rfl
  unfold cel
  rw [hr, span_getD oy]
  rfl
theorem prM_tbl (tA : Tbl n A) (tB : Tbl m B) (hm : 1 ≤ m) : Tbl (n * m) (prM n m A B) := ⟨by unfold prM; rw [List.length_map, span_len], fun r hr => by
  obtain ⟨y, _, rfl⟩ := List.mem_map.mp hr
  rw [List.length_map, span_len], fun r hr z hz => by
  obtain ⟨k, hk, rfl⟩ := List.mem_map.mp hr
  obtain ⟨l, hl, rfl⟩ := List.mem_map.mp hz
  obtain ⟨k1, k2⟩ := dm hm (mem_span.mp hk)
  obtain ⟨l1, l2⟩ := dm hm (mem_span.mp hl)
  exact (md hm (tA.cel_ok k1 l1) (tB.cel_ok k2 l2)).1⟩
theorem prM_parts (tA : Tbl n A) (tB : Tbl m B) (hm : 1 ≤ m) {x y : Int} (ox : OkV ((n * m : Nat) : Int) x) (oy : OkV ((n * m : Nat) : Int) y) : cel (prM n m A B) x y / (m : Int) = cel A (x / (m : Int)) (y / (m : Int)) ∧ cel (prM n m A B) x y % (m : Int) = cel B (x % (m : Int)) (y % (m : Int)) := by
  obtain ⟨k1, k2⟩ := dm hm ox
  obtain ⟨l1, l2⟩ := dm hm oy
  rw [prM_cel ox oy]
  exact (md hm (tA.cel_ok k1 l1) (tB.cel_ok k2 l2)).2
theorem eq_parts {a b : Int} (hm : 1 ≤ m) : a = b ↔ a / (m : Int) = b / (m : Int) ∧ a % (m : Int) = b % (m : Int) := ⟨fun h => by rw [h]; exact ⟨rfl, rfl⟩, fun h => by
  rw [← Int.mul_ediv_add_emod a m, ← Int.mul_ediv_add_emod b m, h.1, h.2]⟩
theorem pr_fold (tA : Tbl n A) (tB : Tbl m B) (hm : 1 ≤ m) : ∀ (r : List Int) (v : Int), OkV ((n * m : Nat) : Int) v → (∀ x ∈ r, OkV ((n * m : Nat) : Int) x) → r.foldl (fun f x => cel (prM n m A B) f x) v / (m : Int) = (r.map (· / (m : Int))).foldl (fun f x => cel A f x) (v / (m : Int)) ∧ r.foldl (fun f x => cel (prM n m A B) f x) v % (m : Int) = (r.map (· % (m : Int))).foldl (fun f x => cel B f x) (v % (m : Int))
  | [], v, _, _ => ⟨rfl, rfl⟩
  | x :: r, v, h, hr => by
    have tP := prM_tbl tA tB hm
    have ox := hr x List.mem_cons_self
    obtain ⟨p1, p2⟩ := prM_parts tA tB hm h ox
    obtain ⟨h1, h2⟩ := pr_fold tA tB hm r (cel (prM n m A B) v x) (tP.cel_ok h ox) fun y hy => hr y (List.mem_cons_of_mem _ hy)
    simp only [List.foldl_cons, List.map_cons]
    rw [h1, h2, p1, p2]
    exact ⟨rfl, rfl⟩
theorem pr_from (tA : Tbl n A) (tB : Tbl m B) (hm : 1 ≤ m) {l : List Int} (h0 : l ≠ []) (h : ∀ x ∈ l, OkV ((n * m : Nat) : Int) x) : fromLeft (prM n m A B) l / (m : Int) = fromLeft A (l.map (· / (m : Int))) ∧ fromLeft (prM n m A B) l % (m : Int) = fromLeft B (l.map (· % (m : Int))) := by
  cases l with
  | nil => exact absurd rfl h0
  | cons v r => exact pr_fold tA tB hm r v (h v List.mem_cons_self) fun y hy => h y (List.mem_cons_of_mem _ hy)
theorem sides_map (f : Int → Int) (rule : Str) (x y z : Int) : sides rule (f x) (f y) (f z) = (sides rule x y z).map fun p => (p.1.map f, p.2.map f) := by
  unfold sides
  repeat' split
  all_goals first | rfl | simp_all
theorem pr_triple (tA : Tbl n A) (tB : Tbl m B) (hm : 1 ≤ m) {rule : Str} {x y z : Int} (ox : OkV ((n * m : Nat) : Int) x) (oy : OkV ((n * m : Nat) : Int) y) (oz : OkV ((n * m : Nat) : Int) z) :
    tripleB (prM n m A B) rule x y z = true ↔ tripleB A rule (x / (m : Int)) (y / (m : Int)) (z / (m : Int)) = true ∧ tripleB B rule (x % (m : Int)) (y % (m : Int)) (z % (m : Int)) = true := by
  have tP := prM_tbl tA tB hm
  have xy := tP.cel_ok ox oy
  have yz := tP.cel_ok oy oz
  have e1 : cel (prM n m A B) (cel (prM n m A B) x y) z = cel (prM n m A B) x (cel (prM n m A B) y z) ↔ cel A (cel A (x / (m : Int)) (y / (m : Int))) (z / (m : Int)) = cel A (x / (m : Int)) (cel A (y / (m : Int)) (z / (m : Int))) ∧ cel B (cel B (x % (m : Int)) (y % (m : Int))) (z % (m : Int)) = cel B (x % (m : Int)) (cel B (y % (m : Int)) (z % (m : Int))) := by
    rw [eq_parts hm, (prM_parts tA tB hm xy oz).1, (prM_parts tA tB hm xy oz).2, (prM_parts tA tB hm ox oy).1, (prM_parts tA tB hm ox oy).2, (prM_parts tA tB hm ox yz).1, (prM_parts tA tB hm ox yz).2, (prM_parts tA tB hm oy oz).1, (prM_parts tA tB hm oy oz).2]
  have e2 : ((sides rule x y z).all fun p => decide (fromLeft (prM n m A B) p.1 = fromLeft (prM n m A B) p.2)) = true ↔ ((sides rule (x / (m : Int)) (y / (m : Int)) (z / (m : Int))).all fun p => decide (fromLeft A p.1 = fromLeft A p.2)) = true ∧ ((sides rule (x % (m : Int)) (y % (m : Int)) (z % (m : Int))).all fun p => decide (fromLeft B p.1 = fromLeft B p.2)) = true := by
    rw [sides_map (· / (m : Int)), sides_map (· % (m : Int)), List.all_map, List.all_map, List.all_eq_true, List.all_eq_true, List.all_eq_true]
    have so := sides_ok (rule := rule) ox oy oz
    have key : ∀ p ∈ sides rule x y z, (fromLeft (prM n m A B) p.1 = fromLeft (prM n m A B) p.2 ↔ fromLeft A (p.1.map (· / (m : Int))) = fromLeft A (p.2.map (· / (m : Int))) ∧ fromLeft B (p.1.map (· % (m : Int))) = fromLeft B (p.2.map (· % (m : Int)))) := fun p hp => by
      obtain ⟨⟨a1, _, a3⟩, b1, _, b3⟩ := so p hp
      rw [eq_parts hm, (pr_from tA tB hm a1 a3).1, (pr_from tA tB hm a1 a3).2, (pr_from tA tB hm b1 b3).1, (pr_from tA tB hm b1 b3).2]
    constructor
    · intro h
      refine ⟨fun p hp => ?_, fun p hp => ?_⟩
      · exact decide_eq_true ((key p hp).mp (of_decide_eq_true (h p hp))).1
      · exact decide_eq_true ((key p hp).mp (of_decide_eq_true (h p hp))).2
    · rintro ⟨h1, h2⟩ p hp
      exact decide_eq_true ((key p hp).mpr ⟨of_decide_eq_true (h1 p hp), of_decide_eq_true (h2 p hp)⟩)
  unfold tripleB
  rw [Bool.and_eq_true, Bool.and_eq_true, Bool.and_eq_true, e2]
  simp only [Bool.or_eq_true, decide_eq_true_eq, e1]
  constructor
  · rintro ⟨h1, h2, h3⟩
    refine ⟨⟨?_, h2⟩, ?_, h3⟩
    · exact h1.imp id fun w => w.1
    · exact h1.imp id fun w => w.2
  · rintro ⟨⟨h1, h2⟩, h3, h4⟩
    refine ⟨?_, h2, h4⟩
    rcases h1 with w | w
    · exact .inl w
    · rcases h3 with w' | w'
      · exact .inl w'
      · exact .inr ⟨w, w'⟩
theorem pr_rules (tA : Tbl n A) (tB : Tbl m B) (hn : 1 ≤ n) (hm : 1 ≤ m) : rulesKept (prM n m A B) = (rulesKept A).filter fun r => decide (r ∈ rulesKept B) := by
  have tP := prM_tbl tA tB hm
  unfold rulesKept
  rw [List.filter_filter]
  refine List.filter_congr fun r hr => ?_
  have o : OkV m 0 := ⟨Int.le_refl _, by omega⟩
  have o' : OkV n 0 := ⟨Int.le_refl _, by omega⟩
  have key : firstBreak (prM n m A B) r = none ↔ firstBreak A r = none ∧ firstBreak B r = none := by
    rw [noBreak tP, noBreak tA, noBreak tB]
    constructor
    · intro h
      refine ⟨fun x ox y oy z oz => ?_, fun x ox y oy z oz => ?_⟩
      · obtain ⟨a1, a2, a3⟩ := md hm ox o
        obtain ⟨b1, b2, b3⟩ := md hm oy o
        obtain ⟨c1, c2, c3⟩ := md hm oz o
        have := ((pr_triple tA tB hm a1 b1 c1).mp (h _ a1 _ b1 _ c1)).1
        rwa [a2, b2, c2] at this
      · obtain ⟨a1, a2, a3⟩ := md hm o' ox
        obtain ⟨b1, b2, b3⟩ := md hm o' oy
        obtain ⟨c1, c2, c3⟩ := md hm o' oz
        have := ((pr_triple tA tB hm a1 b1 c1).mp (h _ a1 _ b1 _ c1)).2
        rwa [a3, b3, c3] at this
    · rintro ⟨h1, h2⟩ x ox y oy z oz
      exact (pr_triple tA tB hm ox oy oz).mpr ⟨h1 _ (dm hm ox).1 _ (dm hm oy).1 _ (dm hm oz).1, h2 _ (dm hm ox).2 _ (dm hm oy).2 _ (dm hm oz).2⟩
  rw [Bool.eq_iff_iff, Bool.and_eq_true, decide_eq_true_iff, Option.isNone_iff_eq_none, Option.isNone_iff_eq_none, key, List.mem_filter, Option.isNone_iff_eq_none]
  exact ⟨fun h => ⟨⟨hr, h.2⟩, h.1⟩, fun h => ⟨h.2, h.1.2⟩⟩
/-- the pairs of values, in their order -/
def prs (n m : Nat) : List (Int × Int) := (span (n * m)).map fun k => (k / (m : Int), k % (m : Int))
theorem span_add (a b : Nat) : span (a + b) = span a ++ (span b).map fun j => (a : Int) + j := by
  unfold span
  rw [List.range_add, List.map_append, List.map_map, List.map_map]
  congr 1
theorem prs_flat (hm : 1 ≤ m) : ∀ n : Nat, ((span n).flatMap fun i => (span m).map fun j => (i, j)) = prs n m
  | 0 => by
    unfold prs
    rw [Nat.zero_mul]
    rfl
  | n + 1 => by
    rw [span_add n 1, List.flatMap_append, prs_flat hm n]
    unfold prs
    rw [Nat.succ_mul, span_add (n * m) m, List.map_append]
    congr 1
    show List.flatMap _ [((n : Int) + 0)] = _
    rw [List.flatMap_cons, List.flatMap_nil, List.append_nil, List.map_map, Int.add_zero]
    refine List.map_congr_left fun j hj => ?_
    have oj := mem_span.mp hj
    have e : ((n * m : Nat) : Int) + j = (n : Int) * m + j := by rw [Int.natCast_mul]
    show ((n : Int), j) = ((((n * m : Nat) : Int) + j) / (m : Int), (((n * m : Nat) : Int) + j) % (m : Int))
    obtain ⟨_, h1, h2⟩ := md (n := n + 1) (a := (n : Int)) hm ⟨by omega, by omega⟩ oj
    rw [e, h1, h2]
theorem prs_ok (hm : 1 ≤ m) {p : Int × Int} (h : p ∈ prs n m) : OkV n p.1 ∧ OkV m p.2 := by
  obtain ⟨k, hk, rfl⟩ := List.mem_map.mp h
  exact dm hm (mem_span.mp hk)
theorem prs_rows : (prs n m).map (fun p => (prs n m).map fun q => cel A p.1 q.1 * (m : Int) + cel B p.2 q.2) = prM n m A B := by
  unfold prs prM
  rw [List.map_map]
  refine List.map_congr_left fun k _ => ?_
  show List.map _ (List.map _ _) = _
  rw [List.map_map]
  rfl
theorem prs_len : (prs n m).length = n * m := by unfold prs; rw [List.length_map, span_len]
end
end Fd

/-! tests that draw; a new list and data side by side -/
namespace Fd
open PySem PySem.Spec PyProof.Rows L2 Fp
def ExB (K : PySem.W.Frag) (W : Wd) (δ : List SV) (tt : TT) (n : Nat) (P : Bool → Prop) : Prop := ∀ (Z : Zs) (H : Hp) (σ : L2.St) (t : Nat), Hd W Z → Al Z H → Rel K Z H σ δ → Iw W t H → t + n ≤ 1000000000 →
  ∀ Q : Bool → Hp → Prop, (∀ b H', Frm (Mw W) H H' → Iw W (t + n) H' → P b → Q b H') → tt σ H Q
section
variable {K : PySem.W.Frag} {lv st : Bool} {W : Wd} {δ δ1 δ2 : List SV} {t : Nat} {a b u : TS} {R S : Out → Nat → Prop} {te ta tb : TE} {ti ti1 : TI} {tr : TA} {tt tu : TT} {d x y : PyData} {ds es xs : List PyData} {i j l m k n : Nat} {c : Bool} {P : Bool → Prop}
theorem EvB.exb (h : EvB K δ tt c) (p : P c) : ExB K W δ tt n P := fun Z H σ t hd al r iw ht Q q => h Z H σ al r Q fun H' e => q c H' (Frm.of e) ((iw.same e).mono (Nat.le_add_right _ _)) p
theorem exb_T {R : PyData → Prop} (h : Ex K lv W δ te n R) (p : ∀ d, R d → ∃ c, d = .bool c ∧ P c) : ExB K W δ (tTest te) n P := fun Z H σ t hd al r iw ht Q q => h Z H σ t hd al r iw ht _ fun v d H' f i rd hv => by
  obtain ⟨c, rfl, pc⟩ := p d rd
  exact ⟨c, hv.bool, q c H' f i pc⟩
theorem exb_B {R : PyData → Prop} (h : Ex K lv W δ te n R) (p : ∀ d, R d → ∃ c, d = .bool c ∧ P c) : ExB K W δ (tB te) n P := fun Z H σ t hd al r iw ht Q q => h Z H σ t hd al r iw ht _ fun v d H' f i rd hv => by
  obtain ⟨c, rfl, pc⟩ := p d rd
  exact ⟨c, hv.bool, q c H' f i pc⟩
theorem exb_not (h : ExB K W δ tt n fun b => P (!b)) : ExB K W δ (tNot tt) n P := fun Z H σ t hd al r iw ht Q q => h Z H σ t hd al r iw ht _ fun b H' f i p => q (!b) H' f i p
theorem exb_or (h : EvB K δ tt c) (h1 : c = true → P true) (h2 : c = false → ExB K W δ tu n P) : ExB K W δ (tOr tt tu) n P := fun Z H σ t hd al r iw ht Q q => h Z H σ al r _ fun H' e => by
  cases c with
  | true => exact q true H' (Frm.of e) ((iw.same e).mono (Nat.le_add_right _ _)) (h1 rfl)
  | false => exact h2 rfl Z H' σ t hd (al.same e) (r.same e) (iw.same e) ht _ fun b H2 f i p => q b H2 ((Frm.of e).trans f) i p
theorem exb_and (h : EvB K δ tt c) (h1 : c = false → P false) (h2 : c = true → ExB K W δ tu n P) : ExB K W δ (tAnd tt tu) n P := fun Z H σ t hd al r iw ht Q q => h Z H σ al r _ fun H' e => by
  cases c with
  | false => exact q false H' (Frm.of e) ((iw.same e).mono (Nat.le_add_right _ _)) (h1 rfl)
  | true => exact h2 rfl Z H' σ t hd (al.same e) (r.same e) (iw.same e) ht _ fun b H2 f i p => q b H2 ((Frm.of e).trans f) i p
theorem sw_ifB (h : ExB K W δ tt n P) (ht : t + n ≤ 1000000000) (h1 : P true → Sw K W δ (t + n) a R) (h2 : P false → Sw K W δ (t + n) b R) : Sw K W δ t (tIfS tt a b) R := fun Z H σ D mz al r iw q1 q2 q3 q4 q5 =>
  h Z H σ t mz al r iw ht _ fun c H1 f i1 p => by
    cases c with
    | true => exact (h1 p).go (s := 0) mz al r i1 f q1 q2 q3 q4 q5
    | false => exact (h2 p).go (s := 0) mz al r i1 f q1 q2 q3 q4 q5
/-- x, y = (a new list), data -/
theorem sw_parOD (h : EvO K δ ta ds) (h' : Ev K true δ tb y) (hi : i < δ.length) (q : ∀ p, R (.nx ((δ.set i (.o p (.lst ds))).set j (.d y))) t) : Sw K W δ t (tPar i j (tCons ta (tCons tb tNil))) R := fun Z H σ D mz al r iw k1 k2 k3 k4 k5 =>
  h Z H σ al r _ fun p xs H1 e1 hp hl hx => by
    have al2 : Al (fun a => Z a || decide (a = p)) H1 := fun a ha => by
      rcases Bool.or_eq_true_iff.mp ha with w | w
      · exact al.same e1 a w
      · rw [of_decide_eq_true w, hl]; intro z; cases z
    have r2 : Rel K (fun a => Z a || decide (a = p)) H1 σ δ := r.hide (fun b o h _ => e1 b o h) (fun a ha => by
      rcases Bool.or_eq_true_iff.mp ha with w | w
      · exact .inl w
      · exact .inr (by rw [of_decide_eq_true w]; exact hp)) al
    refine h' _ H1 σ al2 r2 _ fun v H2 e2 hy => ?_
    have e : Same H H2 := e1.trans e2
    have hp' : ∀ a ∈ OV.adrs p (.lst ds), H a = none := fun a ha => by rw [List.mem_singleton.mp ha]; exact hp
    have r1 : Rel K Z H2 (σ.set i (some (.ref p))) (δ.set i (.o p (.lst ds))) := r.mine (x := .lst ds) al e hp' (List.nodup_cons.mpr ⟨by simp, List.nodup_nil⟩) (fun Hh s => ⟨xs, e2 _ _ hl, hx.same (Same.trans (hid_sub fun b o hb z => ?_) s)⟩) hi
    · refine ⟨_, _, rfl, k1 _ t _ H2 (q p) (Aft.of (Frm.of e) fun b hb => ?_) (r1.putD (hy.same (hid_sub fun b o hb z => ?_))) (iw.same e)⟩
      · rcases own_set _ i b (own_put rfl b hb) with w | w
        · exact .inr (hp' b w)
        · exact .inl w
      · have z : Zo (fun a => Z a || decide (a = p)) δ b = false := z
        obtain ⟨z1, z2⟩ := zo_f.mp z
        obtain ⟨z1, z3⟩ := Bool.or_eq_false_iff.mp z1
        refine ⟨hb, zo_f.mpr ⟨z1, fun m => ?_⟩⟩
        rcases own_set _ i b m with w | w
        · exact (of_decide_eq_false z3) (List.mem_singleton.mp w)
        · exact z2 w
    · have nb : b ≠ p := fun w => by rw [w, del_same] at hb; cases hb
      rw [del_ne nb] at hb
      have : b ∉ OV.adrs p (.lst ds) := fun m => nb (List.mem_singleton.mp m)
      simp only [this, if_false]
      exact ⟨e2 b o hb, z⟩
end
end Fd

set_option maxHeartbeats 1000000
/-! the rules that a table keeps are closed -/
namespace Fd
open PySem PySem.Spec PyProof.Rows L2 Fp Classical
def hornB (f : Nat → Bool) : Bool :=
  (!f 2 || f 0) && ((!f 3 || f 2) && ((!f 4 || f 2) && ((!f 5 || f 2) && ((!f 6 || (f 3 && f 5)) && ((!f 7 || (f 4 && f 5)) && ((!f 8 || (f 0 && f 1)) && ((!(f 2 && f 1) || (f 3 && f 4)) && ((!(f 3 && f 4) || f 1) && ((!(f 5 && f 3) || f 6) && ((!(f 5 && f 4) || f 7) && ((!(f 6 && f 7) || (f 8 && f 1)) && (!(f 8 && f 2) || (f 6 && f 7)))))))))))))
theorem horn_all : (List.range 512).all (fun b => !hornB (fun i => b.testBit i) || decide (clos (sub b) = sub b)) = true := by decide +kernel
theorem horn_clos {b : Nat} (h : b < 512) (q : hornB (fun i => b.testBit i) = true) : clos (sub b) = sub b := by
  have := List.all_eq_true.mp horn_all b (List.mem_range.mpr h)
  rw [q] at this
  exact of_decide_eq_true this
section
variable {n : Nat} {M : List (List Int)}
theorem kG : keptP n M "grouping" ↔ Grp n M := by unfold keptP; rw [if_pos rfl]
theorem kO : keptP n M "order" ↔ ∀ x, OkV n x → ∀ y, OkV n y → cel M x y = cel M y x := by
  unfold keptP ShortP shortP
  simp (config := { decide := true }) only [if_false, or_self]
theorem kF : keptP n M "first" ↔ (Grp n M ∧ Idem n M) ∧ ∀ x, OkV n x → ∀ y, OkV n y → cel M (cel M x y) x = cel M x y := by
  unfold keptP ShortP shortP
  simp (config := { decide := true }) only [if_false, if_true, true_or, or_true]
theorem kL : keptP n M "last" ↔ (Grp n M ∧ Idem n M) ∧ ∀ x, OkV n x → ∀ y, OkV n y → cel M (cel M x y) x = cel M y x := by
  unfold keptP ShortP shortP
  simp (config := { decide := true }) only [if_false, if_true, true_or, or_true]
theorem kE : keptP n M "ends" ↔ (Grp n M ∧ Idem n M) ∧ ∀ x, OkV n x → ∀ y, OkV n y → ∀ z, OkV n z → cel M (cel M x y) z = cel M x z := by
  unfold keptP ShortP shortP
  simp (config := { decide := true }) only [if_false, if_true, true_or, or_true]
theorem kK : keptP n M "keep" ↔ ∀ x, OkV n x → ∀ y, OkV n y → cel M x y = x := by
  unfold keptP ShortP shortP
  simp (config := { decide := true }) only [if_false, if_true, or_self]
theorem kT : keptP n M "take" ↔ ∀ x, OkV n x → ∀ y, OkV n y → cel M x y = y := by
  unfold keptP ShortP shortP
  simp (config := { decide := true }) only [if_false, if_true, or_self]
theorem kV : keptP n M "vanish" ↔ Grp n M ∧ ∀ x, OkV n x → (∀ y, OkV n y → cel M (cel M x x) y = y) ∧ ∀ y, OkV n y → cel M (cel M y x) x = y := by
  unfold keptP ShortP shortP
  simp (config := { decide := true }) only [if_false, if_true, or_self]
theorem kM1 (h : keptP n M "middle") : Grp n M ∧ Idem n M := by
  unfold keptP at h
  rw [if_neg (by decide), if_pos rfl] at h
  rcases h with h | h | h | h <;> exact h.1
theorem kM2 {r : Str} (h : (Grp n M ∧ Idem n M) ∧ ShortP n M r) (hr : r = "first" ∨ r = "last" ∨ r = "ends") : keptP n M "middle" := by
  unfold keptP
  rw [if_neg (by decide), if_pos rfl]
  rcases hr with rfl | rfl | rfl
  · exact .inl h
  · exact .inr (.inl h)
  · exact .inr (.inr (.inl h))
theorem kS {r : Str} (hr : r = "first" ∨ r = "last" ∨ r = "ends") (h : keptP n M r) : (Grp n M ∧ Idem n M) ∧ ShortP n M r := by
  unfold keptP at h
  rcases hr with rfl | rfl | rfl
  all_goals
    rw [if_neg (by decide), if_neg (by decide), if_pos (by decide)] at h
    exact h
theorem imp_b {A B : Prop} {a1 : Decidable A} {b1 : Decidable B} (h : A → B) : (!decide A || decide B) = true := by
  by_cases a : A
  · simp [h a]
  · simp [a]
theorem and_b {A B : Prop} {a1 : Decidable A} {b1 : Decidable B} : (decide A && decide B) = decide (A ∧ B) := by
  by_cases a : A <;> by_cases b : B <;> simp [a, b]
theorem horn_kept (t : Tbl n M) (hn : 1 ≤ n) {f : Nat → Bool} (hf : ∀ i ∈ R9, f i = decide (keptP n M (rn i))) : hornB f = true := by
  have f0 : f 0 = decide (keptP n M "grouping") := hf 0 (by decide)
  have f1 : f 1 = decide (keptP n M "order") := hf 1 (by decide)
  have f2 : f 2 = decide (keptP n M "middle") := hf 2 (by decide)
  have f3 : f 3 = decide (keptP n M "first") := hf 3 (by decide)
  have f4 : f 4 = decide (keptP n M "last") := hf 4 (by decide)
  have f5 : f 5 = decide (keptP n M "ends") := hf 5 (by decide)
  have f6 : f 6 = decide (keptP n M "keep") := hf 6 (by decide)
  have f7 : f 7 = decide (keptP n M "take") := hf 7 (by decide)
  have f8 : f 8 = decide (keptP n M "vanish") := hf 8 (by decide)
  have ok := fun {x y : Int} (hx : OkV n x) (hy : OkV n y) => t.cel_ok hx hy
  unfold hornB
  rw [f0, f1, f2, f3, f4, f5, f6, f7, f8]
  simp only [and_b]
  simp only [Bool.and_eq_true]
  refine ⟨imp_b fun h => kG.mpr (kM1 h).1, imp_b fun h => kM2 (kS (.inl rfl) h) (.inl rfl), imp_b fun h => kM2 (kS (.inr (.inl rfl)) h) (.inr (.inl rfl)), imp_b fun h => kM2 (kS (.inr (.inr rfl)) h) (.inr (.inr rfl)), imp_b fun h => ?_, imp_b fun h => ?_, imp_b fun h => ?_, imp_b fun h => ?_, imp_b fun h => ?_, imp_b fun h => ?_, imp_b fun h => ?_, imp_b fun h => ?_, imp_b fun h => ?_⟩
  · -- keep
    have h := kK.mp h
    have g : Grp n M ∧ Idem n M := ⟨fun x hx y hy z hz => by rw [h x hx y hy, h x hx z hz, h x hx _ (ok hy hz)], fun x hx => h x hx x hx⟩
    exact ⟨kF.mpr ⟨g, fun x hx y hy => h _ (ok hx hy) x hx⟩, kE.mpr ⟨g, fun x hx y hy z hz => by rw [h x hx y hy]⟩⟩
  · -- take
    have h := kT.mp h
    have g : Grp n M ∧ Idem n M := ⟨fun x hx y hy z hz => by rw [h x hx y hy, h y hy z hz, h x hx z hz], fun x hx => h x hx x hx⟩
    exact ⟨kL.mpr ⟨g, fun x hx y hy => by rw [h x hx y hy]⟩, kE.mpr ⟨g, fun x hx y hy z hz => by rw [h x hx y hy, h y hy z hz, h x hx z hz]⟩⟩
  · -- vanish
    obtain ⟨g, h⟩ := kV.mp h
    refine ⟨kG.mpr g, kO.mpr fun x hx y hy => ?_⟩
    have hxy := ok hx hy
    have hyx := ok hy hx
    -- x y = x y (y x)(y x) = x (y y) x (y x) = ((x y) y) (x (y x)) ..
    have e1 : cel M (cel M (cel M x y) (cel M y x)) (cel M y x) = cel M x y := (h _ hyx).2 _ hxy
    have e2 : cel M (cel M x y) (cel M y x) = cel M x x := by
      rw [← g (cel M x y) hxy y hy x hx, (h y hy).2 x hx]
    rw [e2, (h x hx).1 _ hyx] at e1
    exact e1.symm
  · -- middle and order
    obtain ⟨g, i⟩ := kM1 h.1
    have c := kO.mp h.2
    exact ⟨kF.mpr ⟨⟨g, i⟩, fun x hx y hy => by rw [c _ (ok hx hy) x hx, ← g x hx x hx y hy, i x hx]⟩, kL.mpr ⟨⟨g, i⟩, fun x hx y hy => by rw [g x hx y hy x hx, c x hx _ (ok hy hx), g y hy x hx x hx, i x hx]⟩⟩
  · -- first and last
    have h1 := (kF.mp h.1).2
    have h2 := (kL.mp h.2).2
    exact kO.mpr fun x hx y hy => (h1 x hx y hy).symm.trans (h2 x hx y hy)
  · -- ends and first
    obtain ⟨⟨g, i⟩, h1⟩ := kE.mp h.1
    have h2 := (kF.mp h.2).2
    exact kK.mpr fun x hx y hy => by rw [← h2 x hx y hy, h1 x hx y hy x hx, i x hx]
  · -- ends and last
    obtain ⟨⟨g, i⟩, h1⟩ := kE.mp h.1
    have h2 := (kL.mp h.2).2
    exact kT.mpr fun x hx y hy => by rw [← h2 y hy x hx, h1 y hy x hx y hy, i y hy]
  · -- keep and take
    have h1 := kK.mp h.1
    have h2 := kT.mp h.2
    have e : ∀ x, OkV n x → ∀ y, OkV n y → x = y := fun x hx y hy => (h1 x hx y hy).symm.trans (h2 x hx y hy)
    exact ⟨kV.mpr ⟨fun x hx y hy z hz => e _ (ok (ok hx hy) hz) _ (ok hx (ok hy hz)), fun x hx => ⟨fun y hy => e _ (ok (ok hx hx) hy) _ hy, fun y hy => e _ (ok (ok hy hx) hx) _ hy⟩⟩, kO.mpr fun x hx y hy => e _ (ok hx hy) _ (ok hy hx)⟩
  · -- vanish and middle
    obtain ⟨g, h1⟩ := kV.mp h.1
    have i := (kM1 h.2).2
    exact ⟨kK.mpr fun x hx y hy => by
      have := (h1 y hy).2 x hx
      rw [g x hx y hy y hy, i y hy] at this
      exact this, kT.mpr fun x hx y hy => by
      have := (h1 x hx).1 y hy
      rw [i x hx] at this
      exact this⟩
theorem pick_filter (q : Nat → Bool) : ∀ l : List Nat, pick (l.map q) l = l.filter q
  | [] => rfl
  | x :: l => by
    show (if q x = true then x :: pick (l.map q) l else pick (l.map q) l) = _
    rw [pick_filter q l, List.filter_cons]
theorem kept_sub (t : Tbl n M) (hn : 1 ≤ n) : ∃ b, b < 512 ∧ rulesKept M = rS (sub b) ∧ clos (sub b) = sub b := by
  let q : Nat → Bool := fun i => decide (keptP n M (rn i))
  obtain ⟨b, hb, e⟩ := pick_sub (bs := R9.map q) rfl
  rw [pick_filter] at e
  have e2 : rulesKept M = rS (sub b) := by
    rw [← kept_rules_eq t hn, ← e, show R9s = R9.map rn from rfl, List.filter_map]
    rfl
  refine ⟨b, hb, e2, horn_clos hb (horn_kept t hn fun i hi => ?_)⟩
  have : i ∈ R9.filter q ↔ i ∈ sub b := by rw [e]
  unfold sub at this
  rw [List.mem_filter, List.mem_filter] at this
  rw [Bool.eq_iff_iff]
  exact ⟨fun h => (this.mpr ⟨hi, h⟩).2, fun h => (this.mp ⟨hi, h⟩).2⟩
end
end Fd

set_option maxHeartbeats 1000000
/-! new lists of texts; properties; things of another class for a moment -/
namespace Fd
open PySem PySem.Spec PyProof.Rows L2 Fp
def EvS (K : PySem.W.Frag) (δ : List SV) (te : TE) (ss : List Str) : Prop := ∀ (Z : Zs) (H : Hp) (σ : L2.St), Al Z H → Rel K Z H σ δ → ∀ Q : VK, (∀ p H', Same H H' → H p = none → H' p = some (.lst (ss.map V.str)) → Q (.ref p) H') → te σ H Q
def spVS (K : PySem.W.Frag) (F : List PyData → List Str → Prop) : Sp := fun vs H Q _ => ∃ (Z : Zs) (ds : List PyData) (ss : List Str), Al Z H ∧ Dvs K (hid Z H) vs ds ∧ F ds ss ∧ ∀ p H', Same H H' → H p = none → H' p = some (.lst (ss.map V.str)) → Q (.ref p) H'
section
variable {K : PySem.W.Frag} {lv st : Bool} {W : Wd} {δ δ1 δ2 : List SV} {t : Nat} {a b u : TS} {R S : Out → Nat → Prop} {te ta tb : TE} {ti ti1 : TI} {tr : TA} {tt tu : TT} {d x y : PyData} {ds es xs : List PyData} {i j l m k n : Nat} {c : Bool} {ss : List Str} {C CR : Addr} {kvs : List (PyData × PyData)}
theorem EvO.s (h : EvO K δ te (ss.map .str)) : EvS K δ te ss := fun Z H σ al r Q q => h Z H σ al r Q fun p xs H' e hp hl hx => q p H' e hp (by rw [hl, hx.strs])
theorem EvS.ev (h : EvS K δ te ss) : Ev K lv δ te (.list (ss.map .str)) := fun Z H σ al r Q q => h Z H σ al r Q fun p H' e hp hl => q _ H' e (.lst (hid_in hl ((r.all al lv).off hp)) (dvs_strs ss))
theorem evs_call {F : List PyData → List Str → Prop} (h : EvA K lv δ tr ds) (hF : F ds ss) : EvS K δ (tCall (spVS K F) [] E0 tr) ss := fun Z H σ al r Q q =>
  h Z H σ al r _ fun vs H1 e1 hv => by
    rw [List.append_nil]
    exact ⟨Zl lv Z δ, ds, ss, (r.all al lv).same e1, hv, hF, fun p H2 e2 hn hl => q p H2 (e1.trans e2) ((Frm.of (M := fun _ => false) e1).none hn) hl⟩
theorem evs_meth0 {mm : Str} {F : List PyData → List Str → Prop} (h : Ev K lv δ te (iD C kvs)) (hm : fld mm kvs = none) (hF : F [iD C kvs] ss) : EvS K δ (tMeth C mm (spVS K F) [] E0 te tNil) ss := fun Z H σ al r Q q =>
  h Z H σ al r _ fun v H1 e1 hv => by
    obtain ⟨a, dx, fs, rfl, h1, h2⟩ := inst_hid hv
    refine ⟨a, dx, fs, rfl, h1, h2.no hm, ?_⟩
    exact ⟨Zl lv Z δ, _, ss, (r.all al lv).same e1, .cons hv .nil, hF, fun p H2 e2 hn hl => q p H2 (e1.trans e2) ((Frm.of (M := fun _ => false) e1).none hn) hl⟩
/-- x = (a new list of texts) -/
theorem sw_asgS (h : EvS K δ te ss) (hi : i < δ.length) (q : ∀ p, R (.nx (δ.set i (.o p (.lst (ss.map .str))))) t) : Sw K W δ t (tAsg te (gName i)) R := fun Z H σ D mz al r iw k1 k2 k3 k4 k5 =>
  h Z H σ al r _ fun p H' e hp hl => by
    have hp' : ∀ a ∈ OV.adrs p (.lst (ss.map .str)), H a = none := fun a ha => by rw [List.mem_singleton.mp ha]; exact hp
    refine k1 _ t _ H' (q p) (Aft.of (Frm.of e) fun b hb => ?_) (r.mine (x := .lst (ss.map .str)) al e hp' (List.nodup_cons.mpr ⟨by simp, List.nodup_nil⟩) (fun Hh s => ⟨_, hl, dvs_strs ss⟩) hi) (iw.same e)
    rcases own_set _ i b hb with w | w
    · exact .inr (hp' b w)
    · exact .inl w
/-- return (a new list of texts) -/
theorem sw_retS (h : EvS K δ te ss) (q : ∀ p, R (.ro p (.lst (ss.map .str))) t) : Sw K W δ t (tRet te) R := fun Z H σ D mz al r iw k1 k2 k3 k4 k5 =>
  h Z H σ al r _ fun p H' e hp hl => by
    have hp' : ∀ a ∈ OV.adrs p (.lst (ss.map .str)), H a = none := fun a ha => by rw [List.mem_singleton.mp ha]; exact hp
    exact k5 p _ t H' (q p) (Frm.of e) (iw.same e) ⟨⟨_, hl, dvs_strs ss⟩, fun a ha => .inr (hp' a ha), List.nodup_cons.mpr ⟨by simp, List.nodup_nil⟩, fun a ha => al.off (hp' a ha)⟩
theorem tg_unl {g : TGs} {vs : List Nat} (h : Tgs K lv δ vs g ds δ1) (hn : ds.length = n) : Tg K lv δ vs (gUnl K n g) (.list ds) δ1 := fun Z H σ x al r hx Q q => by
  obtain ⟨a, xs, rfl, ha, hxs⟩ := hx.list
  exact ⟨a, xs, rfl, .inl (.inl (of_hid ha).1), by rw [hxs.len]; exact hn, h Z H σ xs al r hxs Q q⟩
theorem pg_unlK {X : Cx} {es : List Expr} {k : Nat} {pos : Pos} {u : TGs} (h : PG X (.Tuple es k pos) (gUnl X.K n u)) (hK : X.K = K := by rfl) : PG X (.Tuple es k pos) (gUnl K n u) := hK ▸ h
theorem ev_prop0 {F : List PyData → PyData → Prop} (ha : Ev K lv δ ta (iD C kvs)) (hF : F [iD C kvs] d) : Ev K lv δ (tProp C (spV K F) [] E0 ta) d := fun Z H σ al r Q q => ha Z H σ al r _ fun v H1 e1 hv => by
  obtain ⟨a, dx, fs, rfl, h1, h2⟩ := inst_hid hv
  exact ⟨a, dx, fs, rfl, h1, Zl lv Z δ, _, d, (r.all al lv).same e1, .cons hv .nil, hF, fun u H' e hu => q u H' (e1.trans e) hu⟩
/-- x, y = (a new thing), data -/
theorem sw_parND {G : OV → Prop} (h : EvN K δ ta G) (h' : Ev K true δ tb y) (hi : i < δ.length) (q : ∀ p x, G x → R (.nx ((δ.set i (.o p x)).set j (.d y))) t) : Sw K W δ t (tPar i j (tCons ta (tCons tb tNil))) R := fun Z H σ D mz al r iw k1 k2 k3 k4 k5 =>
  h Z H σ al r _ fun p x H2 e12 hg f ho hn' nd => by
    have al2 : Al (fun a => Z a || decide (a ∈ x.adrs p)) H2 := fun a ha => by
      rcases Bool.or_eq_true_iff.mp ha with w | w
      · exact al.same e12 a w
      · exact (ho H2).alive f a (of_decide_eq_true w)
    have r2 : Rel K (fun a => Z a || decide (a ∈ x.adrs p)) H2 σ δ := r.hide (fun b o h _ => e12 b o h) (fun a ha => by
      rcases Bool.or_eq_true_iff.mp ha with w | w
      · exact .inl w
      · exact .inr (hn' a (of_decide_eq_true w))) al
    refine h' _ H2 σ al2 r2 _ fun v H3 e3 hy => ?_
    have e : Same H H3 := e12.trans e3
    have st : ∀ Hh, OvAt K Hh H3 p x := fun Hh => (ho Hh).mono (Same.refl _) fun a o _ h => e3 a o h
    obtain ⟨r1, o1⟩ := new_slot al r e f st hn' nd hi
    refine ⟨_, _, rfl, k1 _ t _ _ (q p x hg) (Aft.of (Frm.of e) fun b hb => o1 b (own_put rfl b hb)) (r1.putD (hy.same (hid_sub fun b o hb z => ?_))) (iw.same e)⟩
    have z : Zo (fun a => Z a || decide (a ∈ x.adrs p)) δ b = false := z
    obtain ⟨z1, z2⟩ := zo_f.mp z
    obtain ⟨z1, z3⟩ := Bool.or_eq_false_iff.mp z1
    refine ⟨hb, zo_f.mpr ⟨z1, fun m => ?_⟩⟩
    rcases own_set _ i b m with w | w
    · exact (of_decide_eq_false z3) w
    · exact z2 w
/-! ### Rules -/
theorem dt_strs {Z : Zs} {H : Hp} {v : V} {l : List Nat} (h : Dv K (hid Z H) v (.list ((rS l).map .str))) : Dt H v (ruD l) := by
  obtain ⟨a, xs, rfl, ha, hx⟩ := h.list
  obtain rfl := hx.strs
  rw [ruD_eq]
  have dts : ∀ ss : List Str, Dts H (ss.map V.str) (ss.map .str) := fun ss => by
    induction ss with
    | nil => exact .nil
    | cons s r ih => exact .cons (.str s) ih
  exact .lst (of_hid ha).1 (dts _)
theorem sub_all (b : Nat) : ∀ n ∈ sub b, n ∈ R9 := fun n h => sub_in h
theorem ev_mk {b : Nat} (h : Ev K lv δ te (.list ((rS (sub b)).map .str))) {Z : Zs} {H : Hp} {σ : L2.St} (al : Al Z H) (r : Rel K Z H σ δ) (Q : VK) (q : ∀ p H', Same H H' → RuAt H' CR p (sub b) → Q (.ref p) H') : tMake CR (spInit CR) [] E0 (tCons te tNil) σ H Q :=
  h Z H σ al r _ fun v H1 e1 hv => fun x dx nx ndx ne => mk_rules (C := CR) (Q := Q) (dt_strs hv) (sub_all b) (sub_len b) (fun p H' e r => q p H' (e1.trans e) (by rwa [sub_filter] at r)) x dx nx ndx ne
theorem ev_kindOf {b : Nat} (h : Ev K lv δ te (.list ((rS (sub b)).map .str))) : Ev K lv δ (tProp CR (spKind CR) [] E0 (tMake CR (spInit CR) [] E0 (tCons te tNil))) (.str (kn (weak (sub b)))) := fun Z H σ al r Q q =>
  ev_mk h al r _ fun p H2 e2 hr => by
    obtain ⟨dx, t, g1, g2⟩ := id hr
    exact ⟨p, dx, _, rfl, g1, p, sub b, rfl, hr, fun H3 e3 => q _ H3 (e2.trans e3) (.str _)⟩
theorem ev_closedEq {b : Nat} (h : Ev K lv δ te (.list ((rS (sub b)).map .str))) : Ev K lv δ (tOp (rOwn2 CR (spEq CR)) (tMeth CR "closed" (spClosed CR) [] E0 (tMake CR (spInit CR) [] E0 (tCons te tNil)) tNil) (tMake CR (spInit CR) [] E0 (tCons te tNil))) (.bool (decide (KR (weak (sub b)) = sub b))) := fun Z H σ al r Q q => by
    unfold tOp tMeth
    refine ev_mk h al r _ fun p H2 e2 hr => ?_
    obtain ⟨dx, t, g1, g2⟩ := id hr
    have hw : weak (sub b) ∈ K13 := (weak_head (sub_all b)).2
    refine ⟨p, dx, _, rfl, g1, rFl_no _ _ _ (by decide +kernel) (by decide +kernel), p, sub b, rfl, hr, hw, fun p' H3 e3 hr3 => ?_⟩
    have e13 : Same H H3 := e2.trans e3
    refine ev_mk h (al.same e13) (r.same e13) _ fun p5 H5 e5 hr5 => ?_
    have hr5' := hr3.same e5
    obtain ⟨dx3, t3, g3, g4⟩ := id hr5'
    obtain ⟨dx5, t5, g5, g6⟩ := id hr5
    exact ⟨p', dx3, _, p5, dx5, _, rfl, rfl, g3, g5, p', KR (weak (sub b)), p5, sub b, rfl, hr5', hr5, fun n hn => KR_in _ hw n hn, sub_all b, fun H6 e6 => q _ H6 ((e13.trans e5).trans e6) (.bl _)⟩
/-! ### repr of a list of texts -/
theorem ra_reprL (h1 : (PyData.list (ss.map .str)).showable = true) (h2 : (PyData.list (ss.map .str)).hasDict = false) (h3 : (PyData.list (ss.map .str)).depth ≤ 64) (h4 : (PyData.list (ss.map .str)).shown.length ≤ sizeLine) : RAd K (rReprN K) [.list (ss.map .str)] (.str (PyData.list (ss.map .str)).shown) := fun Z H vs al h Q q => by
  cases h with
  | cons a b =>
    cases b
    obtain ⟨p, xs, rfl, _, _⟩ := a.list
    exact .inr ⟨p, _, rfl, hid_dp a h2, h1, h2, h3, h4, q _ H (Same.refl _) (.str _)⟩
end
section
variable {P : Program} {w : World} {K : PySem.W.Frag} {mg : Str → Option Value} {base : Heap}
theorem fun_VS {x qual : Str} {st : Stmt} {f : Addr} {fd : FuncData} {N ps : List Str} {k : Nat} (F : Fun K x qual st f fd) (S : FnScope N ps (defScope st)) {G : List PyData → List Str → Prop} (hN : ps.length ≤ N.length) (hl : ∀ ds ss, G ds ss → ds.length = ps.length)
    (hbody : ∀ (cdv : Value) (A : Around) (outer : List Env) (s : Shared) (H : Hp) (E : XK) (ds : List PyData) (ss : List Str), Room k (A.deeper (envOfC qual (defScope st) s.heap.objs.size f cdv)) → G ds ss →
      ∃ t, PSs (cxOf CX0 P w K mg base N qual (defScope st) f cdv A outer s H E).nox (defBody st) t ∧ Sw K none (ds.map SV.d ++ List.replicate (N.length - ps.length) .u) 0 t (FinM fun x _ => x = .lst (ss.map .str))) : FnOk P w K mg base CX0 (k + 1) f fd ps (spVS K G) := by
  refine F.ok S (fun vs H Q E h => ?_) (fun cdv A outer s H vs Q E hr h => ?_)
  · obtain ⟨Z, ds, ss, _, hv, hg, _⟩ := h
    rw [hv.len, hl ds ss hg]
  · obtain ⟨Z, ds, ss, al, hv, hg, q⟩ := h
    obtain ⟨t, ht, hw⟩ := hbody cdv A outer s H E ds ss hr hg
    refine ⟨t, ht, sw_runO (G := fun x => x = .lst (ss.map .str)) hw al hv (hl ds ss hg) hN fun p x H' e hx ho hn nd => ?_⟩
    subst hx
    obtain ⟨xs, h1, h2⟩ := ho
    rw [h2.strs] at h1
    exact q p H' e (hn p (List.mem_singleton.mpr rfl)) h1
end
end Fd

set_option maxHeartbeats 1000000
/-! x(lambda: ..) on data: what comes back, or what is raised and met -/
namespace Fd
open PySem PySem.Spec PyProof.Rows L2 Fp LamX
/-- a reading that may raise: R what comes back, F what is raised (class, its fields) -/
def EvR (K : PySem.W.Frag) (lv : Bool) (δ : List SV) (t : XK → TE) (R : PyData → Prop) (F : Addr → List (Str × PyData) → Prop) : Prop := ∀ (Z : Zs) (H : Hp) (σ : L2.St), Al Z H → Rel K Z H σ δ → ∀ (E : XK) (Q : VK),
  (∀ v d H', Same H H' → R d → Dv K (hid (Zl lv Z δ) H') v d → Q v H') →
  (∀ CE fs vs dd H', F CE fs → H dd = none → Same H H' → H' dd = some (.xd ((fs.map (·.1)).zip vs)) → Dvs K (hid (Zl lv Z δ) H') vs (fs.map (·.2)) → E (.ref CE) (some dd) H') → t E σ H Q
/-- what the trying def does with what is raised: a tuple of its tag, the fields and True; L: classes, names of the fields (the latest first), tags -/
def TryE (L : List (Addr × List Str × Str)) (Q : VK) : XK := fun cls od H' => ∃ (C : Addr) (fs : List Str) (nm : Str) (vs : List V) (dd : Addr), (C, fs, nm) ∈ L ∧ cls = .ref C ∧ od = some dd ∧ vs.length = fs.length ∧ H' dd = some (.xd (fs.zip vs)) ∧
  ∀ p, H' p = none → Q (.ref p) (upd H' p (.tup (.str nm :: (vs.reverse ++ [.bl true]))))
def TTd (L : List (Addr × List Str × Str)) : (XK → Hp → VK → Prop) → Hp → VK → Prop := fun tl H Q => tl (TryE L Q) H fun x H1 => ∃ v, (some (some x) : Option (Option V)) = some (some v) ∧ Q v H1
section
variable {K : PySem.W.Frag} {lv st : Bool} {W : Wd} {δ δ1 δ2 : List SV} {t n : Nat} {a b u : TS} {R S : Out → Nat → Prop} {te ta tb : TE} {tr : TA} {d x y : PyData} {ds es xs : List PyData} {i j : Nat} {C p : Addr} {c : Addr × List NdefX.NTab} {kvs : List (PyData × PyData)}
  {RD : PyData → Prop} {FD : Addr → List (Str × PyData) → Prop} {tl : XK → TE} {L : List (Addr × List Str × Str)}
theorem Ev.r (h : ∀ E, Ev K lv δ (tl E) d) : EvR K lv δ tl (fun x => x = d) (fun _ _ => False) := fun Z H σ al r E Q q _ => h E Z H σ al r Q fun v H' e hv => q v d H' e rfl hv
/-- a method that may raise one field -/
theorem evr_methX {m : Str} {F : List PyData → PyData → Prop} {G : List PyData → Addr → Str → PyData → Prop} (ha : Ev K lv δ ta (iD C kvs)) (hm : fld m kvs = none) (ht : EvA K lv δ tr ds) (hF : (∃ d, F (iD C kvs :: ds) d ∧ RD d) ∨ ∃ CE f x, G (iD C kvs :: ds) CE f x ∧ FD CE [(f, x)]) :
    EvR K lv δ (fun E => tMeth C m (spVX K F G) [] E ta tr) RD FD := fun Z H σ al r E Q q qe => ha Z H σ al r _ fun v H1 e1 hv => by
  obtain ⟨a, dx, fs, rfl, hi, hfs⟩ := hv.inst
  refine ⟨a, dx, fs, rfl, (of_hid hi).1, hfs.no hm, ht Z H1 σ (al.same e1) (r.same e1) _ fun vs H2 e2 hvs => ?_⟩
  rw [List.append_nil]
  have e12 := e1.trans e2
  refine ⟨Zl lv Z δ, _, (r.all al lv).same e12, .cons (hv.same (same_hid e2)) hvs, ?_⟩
  rcases hF with ⟨d, h1, h2⟩ | ⟨CE, f, x, h1, h2⟩
  · exact .inl ⟨d, h1, fun v H3 e3 hv3 => q v d H3 (e12.trans e3) h2 hv3⟩
  · exact .inr ⟨CE, f, x, h1, fun dd v H3 hn e3 hd hv3 => qe CE [(f, x)] [v] dd H3 h2 ((Frm.of (M := fun _ => false) e12).none hn) (e12.trans e3) hd (.cons hv3 .nil)⟩
theorem Dvs.one {H : Hp} {vs : List V} {d : PyData} (h : Dvs K H vs [d]) : ∃ v, vs = [v] ∧ Dv K H v d := by
  cases h with
  | cons a b =>
    cases b
    exact ⟨_, rfl, a⟩
/-- the tables have grown -/
theorem ext_frm {H H1 : Hp} (e : ExtB c.2 H H1) : Frm (Mw (some (p, c))) H H1 := ⟨fun b o hb m => e.1 b o hb (mw_f m).2, e.2⟩
theorem ext_iw {H H1 : Hp} (iw : Iw (some (p, c)) t H) (e : ExtB c.2 H H1) (T1 : NdefX.TabsN c.2 H1) : Iw (some (p, c)) t H1 := by
  obtain ⟨pk, tb⟩ : PenOk H p c.1 t ∧ NdefX.TabsN c.2 H := iw
  obtain ⟨cells, turn, left, g1, g2, g3, g4, g5⟩ := pk.ex
  have nt : ∀ {b : Addr} {o : HO}, H b = some o → (∀ ps, o ≠ .tbl ps) → b ∉ c.2.map (·.1) := fun {b o} hb hn w => by
    obtain ⟨x, hx, rfl⟩ := List.mem_map.mp w
    obtain ⟨ps, h1, _⟩ := tb x hx
    exact hn ps (Option.some.inj (hb.symm.trans h1))
  exact ⟨⟨cells, turn, left, e.1 _ _ g1 (nt g1 fun _ z => by cases z), e.1 _ _ g2 (nt g2 fun _ z => by cases z), g3, g4, g5⟩, T1⟩
/-- x(lambda: ..): what comes back, or the tuple that tells what was raised -/
theorem ex_tried {R' : PyData → Prop} (h : EvR K lv δ tl RD FD) (hR : ∀ d, RD d → R' d) (hF : ∀ CE fs, FD CE fs → ∃ nm, (CE, fs.map (·.1), nm) ∈ L ∧ fs.length ≤ 100 ∧ R' (.tuple (.str nm :: ((fs.map (·.2)).reverse ++ [.bool true])))) :
    Ex K lv (some (p, c)) δ (tLamB c.2 (TTd L) tl) 0 R' := fun Z H σ t mz al r iw ht Q q => by
  refine ⟨iw.2, fun H1 e T1 => ?_⟩
  have f := ext_frm (p := p) e
  have i1 := ext_iw iw e T1
  have r1 := r.frm f mz.m
  have al1 := f.alz al
  refine h Z H1 σ al1 r1 _ _ (fun v d H2 e2 rd hv => ⟨v, rfl, q v d H2 (f.trans (Frm.of e2)) (i1.same e2) (hR d rd) hv⟩) fun CE fs vs dd H2 fd hn e2 hd hv => ?_
  obtain ⟨nm, hL, _, hR2⟩ := hF CE fs fd
  have lv' : vs.length = (fs.map (·.1)).length := by rw [hv.len, List.length_map, List.length_map]
  refine ⟨CE, fs.map (·.1), nm, vs, dd, hL, rfl, rfl, lv', hd, fun p' hp => ?_⟩
  have e3 : Same H2 (upd H2 p' (.tup (.str nm :: (vs.reverse ++ [.bl true])))) := same_new hp
  refine q _ _ _ (f.trans (Frm.of (e2.trans e3))) (i1.same (e2.trans e3)) hR2 (.tup (.inl (.inl (hid_in upd_same (((r1.all al1 lv).same e2).off hp)))) (.cons (.str _) ((hv.rev.app (.cons (.bl true) .nil)).same (same_hid e3))))
end
/-- a law's body behind its pen, with tables of code objects -/
def spLawT (K : PySem.W.Frag) (T : List NdefX.NTab) : Sp := fun vs H Q _ => ∃ (a : Addr) (ns : List Int), vs = [.ref a] ∧ SqL K H a (ns.map V.int) ∧ ns.length ≤ 63 ∧ NdefX.TabsN T H ∧ ∀ H', Q (.bl true) H'
theorem law_goT {K : PySem.W.Frag} {rest : TS} {m : Nat} {a : Addr} {ns : List Int} {H : Hp} {D : Ends} {T : List NdefX.NTab} (hS : SqL K H a (ns.map V.int)) (hlen : ns.length ≤ 63) (hT : NdefX.TabsN T H) (q : ∀ H', D.rt (.bl true) H') (hw : ∀ p (c : Addr × List NdefX.NTab), c.2 = T → Sw K (some (p, c)) (.u :: .v (.ref p) :: List.replicate m .u) 0 rest (Fin fun d _ => d = .bool true)) :
    tSeq (tAsg (tCall (spPen K) [] E0 (tCons (tVar 0) tNil)) (gName 1)) rest D (some (.ref a) :: List.replicate (m + 1) none) H := by
  refine seqi fun k0 hk0 => ?_
  refine ⟨_, rfl, a, ns, rfl, hS, hlen, fun H1 p c np e1 P1 => ?_⟩
  subst hk0
  have T1 : NdefX.TabsN T H1 := hT.ext e1
  have hp : H1 p ≠ none := by
    obtain ⟨cells, turn, left, g1, g2, _⟩ := P1.ex
    rw [g1]; intro z; cases z
  have hc : H1 c ≠ none := by
    obtain ⟨cells, turn, left, g1, g2, _⟩ := P1.ex
    rw [g2]; intro z; cases z
  refine hw p (c, T) rfl (fun x => decide (x = p) || (decide (x = c) || decide (x ∈ T.map (·.1)))) H1 _ _ ⟨fun b h => ?_, fun pc e => by cases e; simp⟩ (fun b h => ?_) ⟨by simp, fun i s hi => ?_, by rw [own_us]; exact List.nodup_nil, fun b hb => by rw [own_us] at hb; simp at hb⟩ ⟨P1, T1⟩ (fun δ' t' σ' H' e => ?_) (fun d' t' v H' e f i hv => ?_) (fun δ' t' σ' H' e => e.elim) (fun δ' t' σ' H' e => e.elim) (fun p x t' H' e => e.elim)
  · have h : (decide (b = p) || decide (b ∈ T.map (·.1))) = true := h
    rcases Bool.or_eq_true_iff.mp h with h | h
    · simp [of_decide_eq_true h]
    · show (_ || (_ || decide (b ∈ T.map (·.1)))) = true
      rw [h]; simp
  · rcases Bool.or_eq_true_iff.mp h with h | h
    · rw [of_decide_eq_true h]; exact hp
    · rcases Bool.or_eq_true_iff.mp h with h | h
      · rw [of_decide_eq_true h]; exact hc
      · obtain ⟨x, hx, rfl⟩ := List.mem_map.mp (of_decide_eq_true h)
        obtain ⟨ps, h1, _⟩ := T1 x hx
        rw [h1]; intro z; cases z
  · match i, hi with
    | 0, rfl => trivial
    | 1, rfl => rfl
    | i + 2, hi =>
      have hi : (List.replicate m SV.u)[i]? = some s := hi
      have := List.eq_of_mem_replicate (List.mem_of_getElem? hi)
      rw [this]
      trivial
  · have e : PyData.none = .bool true := e
    cases e
  · have e : d' = .bool true := e
    subst e
    rw [hv.bool]
    exact q H'
end Fd

set_option maxHeartbeats 1000000
/-! the values that some values make: closing under a table -/
namespace Fd
open PySem PySem.Spec PyProof.Rows L2 Fp Classical
section
variable {n : Nat} {M : List (List Int)} {S : List Int}
inductive Made (M : List (List Int)) (S : List Int) : Int → Prop
  | base {x : Int} : x ∈ S → Made M S x
  | op {x y : Int} : Made M S x → Made M S y → Made M S (cel M x y)
theorem Made.ok (t : Tbl n M) (hS : ∀ x ∈ S, OkV n x) {x : Int} (h : Made M S x) : OkV n x := by
  induction h with
  | base h => exact hS _ h
  | op _ _ a b => exact t.cel_ok a b
/-- the values made, in their order -/
noncomputable def madeL (n : Nat) (M : List (List Int)) (S : List Int) : List Int := (span n).filter fun x => decide (Made M S x)
theorem mem_madeL (t : Tbl n M) (hS : ∀ x ∈ S, OkV n x) {x : Int} : x ∈ madeL n M S ↔ Made M S x := by
  unfold madeL
  rw [List.mem_filter, mem_span, decide_eq_true_eq]
  exact ⟨fun h => h.2, fun h => ⟨h.ok t hS, h⟩⟩
theorem madeL_congr {S' : List Int} (h : ∀ x, x ∈ S ↔ x ∈ S') : madeL n M S = madeL n M S' := by
  have : ∀ x, Made M S x ↔ Made M S' x := fun x => ⟨fun m => by
    induction m with
    | base m => exact .base ((h _).mp m)
    | op _ _ a b => exact .op a b, fun m => by
    induction m with
    | base m => exact .base ((h _).mpr m)
    | op _ _ a b => exact .op a b⟩
  unfold madeL
  exact List.filter_congr fun x _ => decide_eq_decide.mpr (this x)
/-- a list between the values and what they make, closed: its members are just what is made -/
theorem closed_mem {L : List Int} (h1 : ∀ x ∈ S, x ∈ L) (h2 : ∀ x ∈ L, Made M S x) (h3 : ∀ x ∈ L, ∀ y ∈ L, cel M x y ∈ L) (x : Int) : x ∈ L ↔ Made M S x := ⟨h2 x, fun m => by
  induction m with
  | base m => exact h1 _ m
  | op _ _ a b => exact h3 _ a _ b⟩
theorem span_sorted : ∀ n : Nat, (span n).Pairwise (· < ·) := fun n => by
  unfold span
  rw [List.pairwise_map]
  exact (List.pairwise_lt_range).imp fun h => by omega
theorem sorted_eq : ∀ {a b : List Int}, a.Pairwise (· < ·) → b.Pairwise (· < ·) → (∀ x, x ∈ a ↔ x ∈ b) → a = b
  | [], [], _, _, _ => rfl
  | [], y :: _, _, _, h => absurd ((h y).mpr List.mem_cons_self) (by simp)
  | x :: _, [], _, _, h => absurd ((h x).mp List.mem_cons_self) (by simp)
  | x :: r, y :: u, ha, hb, h => by
    obtain ⟨a1, a2⟩ := List.pairwise_cons.mp ha
    obtain ⟨b1, b2⟩ := List.pairwise_cons.mp hb
    have e : x = y := by
      rcases List.mem_cons.mp ((h x).mp List.mem_cons_self) with w | w
      · exact w
      · rcases List.mem_cons.mp ((h y).mpr List.mem_cons_self) with v | v
        · exact v.symm
        · have := b1 x w
          have := a1 y v
          omega
    subst e
    refine congrArg _ (sorted_eq a2 b2 fun z => ⟨fun hz => ?_, fun hz => ?_⟩)
    · rcases List.mem_cons.mp ((h z).mp (List.mem_cons_of_mem _ hz)) with w | w
      · have := a1 z hz; omega
      · exact w
    · rcases List.mem_cons.mp ((h z).mpr (List.mem_cons_of_mem _ hz)) with w | w
      · have := b1 z hz; omega
      · exact w
/-- sorting a closed list without repeats gives them in their order -/
theorem sorted_made (t : Tbl n M) (hS : ∀ x ∈ S, OkV n x) {L L' : List Int} (nd : L.Nodup) (h : ∀ x, x ∈ L ↔ Made M S x) (p : L'.Perm L) (o : L'.Pairwise (· ≤ ·)) : L' = madeL n M S := by
  have nd' : L'.Nodup := p.nodup_iff.mpr nd
  refine sorted_eq ?_ ?_ fun x => by rw [p.mem_iff, h x, mem_madeL t hS]
  · exact (o.and nd').imp fun ⟨a, b⟩ => by omega
  · exact (span_sorted n).sublist List.filter_sublist
/-- more than n values without repeats there are not -/
theorem nodup_len {L : List Int} (nd : L.Nodup) (h : ∀ x ∈ L, OkV n x) : L.length ≤ n := by
  have : L.length ≤ (span n).length := List.Nodup.length_le_of_subset nd fun x hx => mem_span.mpr (h x hx)
  rwa [span_len] at this
end
end Fd

set_option maxHeartbeats 1000000
/-! new lists of whole numbers, sorting -/
namespace Fd
open PySem PySem.Spec PyProof.Rows L2 Fp
def EvZ (K : PySem.W.Frag) (δ : List SV) (te : TE) (ss : List Int) : Prop := ∀ (Z : Zs) (H : Hp) (σ : L2.St), Al Z H → Rel K Z H σ δ → ∀ Q : VK, (∀ p H', Same H H' → H p = none → H' p = some (.lst (ss.map V.int)) → Q (.ref p) H') → te σ H Q
def spVZ (K : PySem.W.Frag) (F : List PyData → List Int → Prop) : Sp := fun vs H Q _ => ∃ (Z : Zs) (ds : List PyData) (ss : List Int), Al Z H ∧ Dvs K (hid Z H) vs ds ∧ F ds ss ∧ ∀ p H', Same H H' → H p = none → H' p = some (.lst (ss.map V.int)) → Q (.ref p) H'
section
variable {K : PySem.W.Frag} {lv st : Bool} {W : Wd} {δ δ1 δ2 : List SV} {t : Nat} {a b u : TS} {R S : Out → Nat → Prop} {te ta tb : TE} {ti ti1 : TI} {tr : TA} {tt tu : TT} {d x y : PyData} {ds es xs : List PyData} {i j l m k n : Nat} {c : Bool} {ss : List Int} {C CR : Addr} {kvs : List (PyData × PyData)}
theorem EvO.z (h : EvO K δ te (ss.map .int)) : EvZ K δ te ss := fun Z H σ al r Q q => h Z H σ al r Q fun p xs H' e hp hl hx => q p H' e hp (by rw [hl, hx.ints])
theorem EvZ.ev (h : EvZ K δ te ss) : Ev K lv δ te (.list (ss.map .int)) := fun Z H σ al r Q q => h Z H σ al r Q fun p H' e hp hl => q _ H' e (.lst (hid_in hl ((r.all al lv).off hp)) (dvs_ints ss))
theorem evz_call {F : List PyData → List Int → Prop} (h : EvA K lv δ tr ds) (hF : F ds ss) : EvZ K δ (tCall (spVZ K F) [] E0 tr) ss := fun Z H σ al r Q q =>
  h Z H σ al r _ fun vs H1 e1 hv => by
    rw [List.append_nil]
    exact ⟨Zl lv Z δ, ds, ss, (r.all al lv).same e1, hv, hF, fun p H2 e2 hn hl => q p H2 (e1.trans e2) ((Frm.of (M := fun _ => false) e1).none hn) hl⟩
theorem evz_meth0 {mm : Str} {F : List PyData → List Int → Prop} (h : Ev K lv δ te (iD C kvs)) (hm : fld mm kvs = none) (hF : F [iD C kvs] ss) : EvZ K δ (tMeth C mm (spVZ K F) [] E0 te tNil) ss := fun Z H σ al r Q q =>
  h Z H σ al r _ fun v H1 e1 hv => by
    obtain ⟨a, dx, fs, rfl, h1, h2⟩ := inst_hid hv
    refine ⟨a, dx, fs, rfl, h1, h2.no hm, ?_⟩
    exact ⟨Zl lv Z δ, _, ss, (r.all al lv).same e1, .cons hv .nil, hF, fun p H2 e2 hn hl => q p H2 (e1.trans e2) ((Frm.of (M := fun _ => false) e1).none hn) hl⟩
/-- x = (a new list of texts) -/
theorem sw_asgZ (h : EvZ K δ te ss) (hi : i < δ.length) (q : ∀ p, R (.nx (δ.set i (.o p (.lst (ss.map .int))))) t) : Sw K W δ t (tAsg te (gName i)) R := fun Z H σ D mz al r iw k1 k2 k3 k4 k5 =>
  h Z H σ al r _ fun p H' e hp hl => by
    have hp' : ∀ a ∈ OV.adrs p (.lst (ss.map .int)), H a = none := fun a ha => by rw [List.mem_singleton.mp ha]; exact hp
    refine k1 _ t _ H' (q p) (Aft.of (Frm.of e) fun b hb => ?_) (r.mine (x := .lst (ss.map .int)) al e hp' (List.nodup_cons.mpr ⟨by simp, List.nodup_nil⟩) (fun Hh s => ⟨_, hl, dvs_ints ss⟩) hi) (iw.same e)
    rcases own_set _ i b hb with w | w
    · exact .inr (hp' b w)
    · exact .inl w
/-- return (a new list of texts) -/
theorem sw_retZ (h : EvZ K δ te ss) (q : ∀ p, R (.ro p (.lst (ss.map .int))) t) : Sw K W δ t (tRet te) R := fun Z H σ D mz al r iw k1 k2 k3 k4 k5 =>
  h Z H σ al r _ fun p H' e hp hl => by
    have hp' : ∀ a ∈ OV.adrs p (.lst (ss.map .int)), H a = none := fun a ha => by rw [List.mem_singleton.mp ha]; exact hp
    exact k5 p _ t H' (q p) (Frm.of e) (iw.same e) ⟨⟨_, hl, dvs_ints ss⟩, fun a ha => .inr (hp' a ha), List.nodup_cons.mpr ⟨by simp, List.nodup_nil⟩, fun a ha => al.off (hp' a ha)⟩
end
section
variable {P : Program} {w : World} {K : PySem.W.Frag} {mg : Str → Option Value} {base : Heap}
theorem fun_VZ {x qual : Str} {st : Stmt} {f : Addr} {fd : FuncData} {N ps : List Str} {k : Nat} (F : Fun K x qual st f fd) (S : FnScope N ps (defScope st)) {G : List PyData → List Int → Prop} (hN : ps.length ≤ N.length) (hl : ∀ ds ss, G ds ss → ds.length = ps.length)
    (hbody : ∀ (cdv : Value) (A : Around) (outer : List Env) (s : Shared) (H : Hp) (E : XK) (ds : List PyData) (ss : List Int), Room k (A.deeper (envOfC qual (defScope st) s.heap.objs.size f cdv)) → G ds ss →
      ∃ t, PSs (cxOf CX0 P w K mg base N qual (defScope st) f cdv A outer s H E).nox (defBody st) t ∧ Sw K none (ds.map SV.d ++ List.replicate (N.length - ps.length) .u) 0 t (FinM fun x _ => x = .lst (ss.map .int))) : FnOk P w K mg base CX0 (k + 1) f fd ps (spVZ K G) := by
  refine F.ok S (fun vs H Q E h => ?_) (fun cdv A outer s H vs Q E hr h => ?_)
  · obtain ⟨Z, ds, ss, _, hv, hg, _⟩ := h
    rw [hv.len, hl ds ss hg]
  · obtain ⟨Z, ds, ss, al, hv, hg, q⟩ := h
    obtain ⟨t, ht, hw⟩ := hbody cdv A outer s H E ds ss hr hg
    refine ⟨t, ht, sw_runO (G := fun x => x = .lst (ss.map .int)) hw al hv (hl ds ss hg) hN fun p x H' e hx ho hn nd => ?_⟩
    subst hx
    obtain ⟨xs, h1, h2⟩ := ho
    rw [h2.ints] at h1
    exact q p H' e (hn p (List.mem_singleton.mpr rfl)) h1
end
section
variable {K : PySem.W.Frag} {lv : Bool} {δ : List SV} {te : TE} {zs r : List Int}
theorem evz_sorted (h : Ev K lv δ te (.list (zs.map .int))) (u : ∀ zs', zs'.Perm zs → zs'.Pairwise (· ≤ ·) → zs' = r) : EvZ K δ (tCB (rSortedI K) (tCons te tNil)) r := fun Z H σ al re Q q => h Z H σ al re _ fun v H1 e1 hv => by
  obtain ⟨a, xs, rfl, ha, hx⟩ := hv.list
  obtain rfl := hx.ints
  refine ⟨a, zs, rfl, .inl (.inl (of_hid ha).1), fun zs' p pp po hp => ?_⟩
  obtain rfl := u zs' pp po
  exact q p _ (Same.new e1 hp) ((Frm.of (M := fun _ => false) e1).none hp) upd_same
theorem evz_sortedK (h : Ev K lv δ te (.list (zs.map .int))) (hl : zs.length < 64) (u : ∀ zs', zs'.Perm zs → zs'.Pairwise (· ≤ ·) → zs' = r) : EvZ K δ (L2.tCKw (rSortedKI K) (tCons te tNil) (tCons (tC (.ty "int")) tNil)) r := fun Z H σ al re Q q => h Z H σ al re _ fun v H1 e1 hv => by
  obtain ⟨a, xs, rfl, ha, hx⟩ := hv.list
  obtain rfl := hx.ints
  refine ⟨a, zs, rfl, rfl, .inl (.inl (of_hid ha).1), hl, fun zs' p pp po hp => ?_⟩
  obtain rfl := u zs' pp po
  exact q p _ (Same.new e1 hp) ((Frm.of (M := fun _ => false) e1).none hp) upd_same
theorem pe_sortedKey {X : Cx} {p pos kpos ip : Pos} {e : Expr} {t : TE} (hg : Gl X "sorted") (hm : X.mg "sorted" = none) (hgi : Gl X "int") (hmi : X.mg "int" = none) (ha : PE X e t) (hK : X.K = K)
    (he : backTo pos (starEach [e] X.env) = (false, eval e X.env) :: backTo pos (starEach [] X.env) := by rfl) (hpl : (backTo pos (starEach [e] X.env)).any (·.1) = false := by rfl)
    (hall : (backToKw pos (keywordEach [⟨some "key", .Name "int" ip, kpos⟩] X.env)).all (·.1.isSome) = true := by rfl) (hnone : (backToKw pos (keywordEach [⟨some "key", .Name "int" ip, kpos⟩] X.env)).any (·.1.isNone) = false := by rfl) (hks : (backToKw pos (keywordEach [⟨some "key", .Name "int" ip, kpos⟩] X.env)).filterMap (·.1) = [Str.ofString "key"] := by rfl) (hpa : PA X [e] (tCons t tNil)) :
    PE X (.Call (.Name "sorted" p) [e] [⟨some "key", .Name "int" ip, kpos⟩] pos) (L2.tCKw (rSortedKI K) (tCons t tNil) (tCons (tC (.ty "int")) tNil)) := by
  subst hK
  exact L2.pe_callBK (id := "sorted") (ks := [Str.ofString "key"]) cr_sortedKeyInt hg hm (by decide +kernel) hpa (L2.pk_cons (pe_bltn (u := .type "int") hgi hmi (by decide +kernel) rfl) L2.pk_nil) (by decide) (by decide) he hpl hall hnone hks
end
end Fd

set_option maxHeartbeats 1000000
/-! statements that may raise: what Sw tells, and what is raised (class, fields) goes to E -/
namespace Fd
open PySem PySem.Spec PyProof.Rows L2 Fp
/-- what is raised at a heap behind H -/
def Rz (K : PySem.W.Frag) (M : Zs) (Z : Zs) (H : Hp) (E : XK) (F : Addr → List (Str × PyData) → Prop) : Prop := ∀ CE fs vs dd H', F CE fs → H dd = none → Frm M H H' → H' dd = some (.xd ((fs.map (·.1)).zip vs)) → Dvs K (hid Z H') vs (fs.map (·.2)) → E (.ref CE) (some dd) H'
def SwE (K : PySem.W.Frag) (W : Wd) (E : XK) (F : Addr → List (Str × PyData) → Prop) (δ : List SV) (t : Nat) (ts : TS) (R : Out → Nat → Prop) : Prop := ∀ (Z : Zs) (H : Hp) (σ : L2.St) (D : Ends), Hd W Z → Al Z H → Rel K Z H σ δ → Iw W t H →
  (∀ δ' t' σ' H', R (.nx δ') t' → Aft W δ δ' H H' → Rel K Z H' σ' δ' → Iw W t' H' → D.nx σ' H') →
  (∀ d t' v H', R (.rt d) t' → Frm (Mo W δ) H H' → Iw W t' H' → Dv K (hid Z H') v d → D.rt v H') →
  (∀ δ' t' σ' H', R (.bk δ') t' → Aft W δ δ' H H' → Rel K Z H' σ' δ' → Iw W t' H' → D.bk σ' H') →
  (∀ δ' t' σ' H', R (.ct δ') t' → Aft W δ δ' H H' → Rel K Z H' σ' δ' → Iw W t' H' → D.ct σ' H') →
  (∀ p x t' H', R (.ro p x) t' → Frm (Mo W δ) H H' → Iw W t' H' → OvNew K Z δ H H' p x → D.rt (.ref p) H') → Rz K (Mo W δ) Z H E F → ts D σ H
section
variable {K : PySem.W.Frag} {lv : Bool} {W : Wd} {E : XK} {F : Addr → List (Str × PyData) → Prop} {δ δ1 δ2 : List SV} {t n : Nat} {a b u tb : TS} {R S : Out → Nat → Prop} {te : TE} {wi : TI} {tt : TT} {d x : PyData} {ds : List PyData} {i : Nat} {g : TG} {c : Bool} {P : Bool → Prop}
theorem Rz.aft {Z : Zs} {H H1 : Hp} (z : Rz K (Mo W δ) Z H E F) (f : Aft W δ δ1 H H1) : Rz K (Mo W δ1) Z H1 E F := fun CE fs vs dd H' h1 h2 h3 h4 h5 => z CE fs vs dd H' h1 (f.frm.none h2) (frm_next f h3) h4 h5
theorem Sw.e (h : Sw K W δ t a R) : SwE K W E F δ t a R := fun Z H σ D mz al r iw h1 h2 h3 h4 h5 _ => h Z H σ D mz al r iw h1 h2 h3 h4 h5
theorem SwE.imp (h : SwE K W E F δ t a R) (e : ∀ o t', R o t' → S o t') : SwE K W E F δ t a S := fun Z H σ D mz al r iw h1 h2 h3 h4 h5 h6 =>
  h Z H σ D mz al r iw (fun δ' t' σ' H' q => h1 δ' t' σ' H' (e _ _ q)) (fun d t' v H' q => h2 d t' v H' (e _ _ q)) (fun δ' t' σ' H' q => h3 δ' t' σ' H' (e _ _ q)) (fun δ' t' σ' H' q => h4 δ' t' σ' H' (e _ _ q)) (fun p x t' H' q => h5 p x t' H' (e _ _ q)) h6
theorem swe_seq (h : SwE K W E F δ t a fun o t' => match o with
    | .nx δ' => SwE K W E F δ' t' b R
    | o => R o t') : SwE K W E F δ t (tSeq a b) R := fun Z H σ D mz al r iw h1 h2 h3 h4 h5 h6 => by
  refine h Z H σ _ mz al r iw (fun δ' t' σ' H' q f r' i' => ?_) h2 h3 h4 h5 h6
  exact q Z H' σ' D mz (f.frm.alz al) r' i' (fun δ2 t2 σ2 H2 q2 f2 => h1 δ2 t2 σ2 H2 q2 (f.trans f2)) (fun d t2 v H2 q2 f2 => h2 d t2 v H2 q2 (frm_next f f2)) (fun δ2 t2 σ2 H2 q2 f2 => h3 δ2 t2 σ2 H2 q2 (f.trans f2)) (fun δ2 t2 σ2 H2 q2 f2 => h4 δ2 t2 σ2 H2 q2 (f.trans f2)) (fun p x t2 H2 q2 f2 i2 n2 => h5 p x t2 H2 q2 (frm_next f f2) i2 (n2.back f)) (h6.aft f)
theorem SwE.go {Z : Zs} {H H1 : Hp} {σ : L2.St} {D : Ends} (h : SwE K W E F δ t a R) (mz : Hd W Z) (al : Al Z H) (r : Rel K Z H σ δ) (iw : Iw W t H1) (f : Frm (Mw W) H H1)
    (h1 : ∀ δ' t' σ' H', R (.nx δ') t' → Aft W δ δ' H H' → Rel K Z H' σ' δ' → Iw W t' H' → D.nx σ' H') (h2 : ∀ d t' v H', R (.rt d) t' → Frm (Mo W δ) H H' → Iw W t' H' → Dv K (hid Z H') v d → D.rt v H')
    (h3 : ∀ δ' t' σ' H', R (.bk δ') t' → Aft W δ δ' H H' → Rel K Z H' σ' δ' → Iw W t' H' → D.bk σ' H') (h4 : ∀ δ' t' σ' H', R (.ct δ') t' → Aft W δ δ' H H' → Rel K Z H' σ' δ' → Iw W t' H' → D.ct σ' H')
    (h5 : ∀ p x t' H', R (.ro p x) t' → Frm (Mo W δ) H H' → Iw W t' H' → OvNew K Z δ H H' p x → D.rt (.ref p) H') (h6 : Rz K (Mo W δ) Z H E F) : a D σ H1 := by
  have a0 : Aft W δ δ H H1 := Aft.of f fun p h => .inl h
  exact h Z H1 σ D mz (f.alz al) (r.frm f mz.m) iw (fun δ' t' σ' H' q f2 => h1 δ' t' σ' H' q (a0.trans f2)) (fun d t' v H' q f2 => h2 d t' v H' q (frm_next a0 f2)) (fun δ' t' σ' H' q f2 => h3 δ' t' σ' H' q (a0.trans f2)) (fun δ' t' σ' H' q f2 => h4 δ' t' σ' H' q (a0.trans f2)) (fun p x t' H' q f2 i2 n2 => h5 p x t' H' q (frm_next a0 f2) i2 (n2.back a0)) (h6.aft a0)
theorem swe_if (h : EvB K δ tt c) (h1 : c = true → SwE K W E F δ t a R) (h2 : c = false → SwE K W E F δ t b R) : SwE K W E F δ t (tIfS tt a b) R := fun Z H σ D mz al r iw q1 q2 q3 q4 q5 q6 => h Z H σ al r _ fun H1 e => by
  cases c with
  | true => exact (h1 rfl).go mz al r (iw.same e) (Frm.of e) q1 q2 q3 q4 q5 q6
  | false => exact (h2 rfl).go mz al r (iw.same e) (Frm.of e) q1 q2 q3 q4 q5 q6
/-- raise C(e) -/
theorem swe_raise {C : Addr} {f : Str} (h : Ev K true δ te d) (hF : F C [(f, d)]) : SwE K W E F δ t (tRaiseN C f te fun cls od _ H' => E cls od H') R := fun Z H σ D mz al r iw q1 q2 q3 q4 q5 q6 => h Z H σ al r _ fun v H1 e hv =>
  raiseN_go (C := C) (f := f) (W := fun cls od _ H' => E cls od H') (σ := σ) fun dd H' hn e2 hd => q6 C [(f, d)] [v] dd H' hF ((Frm.of (M := fun _ => false) e).none hn) (Frm.of (e.trans e2)) hd (.cons ((hv.same (hid_sub fun a o h z => ⟨e2 a o h, zl_out z⟩))) .nil)
/-- a loop whose body may raise -/
theorem swe_for {vs : List Nat} (hi : EvI K true true δ wi ds) (V : Nat → List SV → Nat → Prop) (h0 : V 0 δ t)
    (hs : ∀ i d δ' t', ds[i]? = some d → V i δ' t' → ∃ δ'', (∀ q ∈ own δ'', q ∈ own δ') ∧ Tg K true δ' vs g d δ'' ∧ SwE K W E F δ'' t' tb fun o t2 => match o with
      | .nx δ3 => V (i + 1) δ3 t2
      | .ct δ3 => V (i + 1) δ3 t2
      | .bk δ3 => R (.nx δ3) t2
      | .rt d => R (.rt d) t2
      | .ro p x => R (.ro p x) t2)
    (hd : ∀ δ' t', V ds.length δ' t' → R (.nx δ') t') : SwE K W E F δ t (tFor wi g tb) R := fun Z H σ D mz al r iw h1 h2 h3 h4 h5 h6 => by
  rw [for_G]
  refine hi Z H σ al r _ fun J H1 e1 jd => ?_
  have al1 := al.same e1
  have r1 := r.same e1
  have a01 : Aft W δ δ H H1 := Aft.of (Frm.of e1) fun p h => .inl h
  refine forg_jd jd (fun i σ' H' => ∃ δ' t', V i δ' t' ∧ Aft W δ δ' H1 H' ∧ Rel K Z H' σ' δ' ∧ Iw W t' H') ⟨δ, t, h0, Aft.refl, r1, iw.same e1⟩ (fun i σ' H' _ p => ?_) (fun i x d σ' H2 H' hd2 p e2 hx => ?_) (fun σ' H' p => ?_)
  · obtain ⟨δ', t', v, f, _, _⟩ := p
    unfold Stb
    rw [if_pos rfl]
    intro b o hb z
    obtain ⟨z1, z2⟩ := zo_f.mp z
    refine f.frm.keep b o hb (mo_f.mpr ⟨?_, z2⟩)
    cases m : Mw W b with
    | false => rfl
    | true => rw [mz.m b m] at z1; cases z1
  · obtain ⟨δ', t', v, f, r', i'⟩ := p
    obtain ⟨δ'', ho, htg, hb⟩ := hs i d δ' t' hd2 v
    have al2 : Al Z H2 := f.frm.alz al1
    have f2 : Aft W δ δ' H1 H' := f.trans (Aft.of (Frm.of e2) fun p h => .inl h)
    have r2 := r'.same e2
    refine htg Z H' σ' x (al2.same e2) r2 (hx (Zo Z δ') (fun b hb => ?_) (r'.alo al2)) _ fun σ2 r3 _ => ?_
    · show Zo Z δ b = true ∨ _
      unfold Zo at hb ⊢
      rcases Bool.or_eq_true_iff.mp hb with w | w
      · exact .inl (by rw [w]; rfl)
      · rcases f.new b (of_decide_eq_true w) with w | w
        · exact .inl (by rw [decide_eq_true w, Bool.or_true])
        · exact .inr w
    have f3 : Aft W δ δ'' H1 H' := f2.trans (Aft.of Frm.refl fun p h => .inl (ho p h))
    refine hb Z H' σ2 _ mz (al2.same e2) r3 (i'.same e2) (fun δ3 t3 σ3 H3 q f4 r4 i4 => ⟨δ3, t3, q, f3.trans f4, r4, i4⟩) (fun d t3 v H3 q f4 i4 hv => h2 d t3 v H3 q (frm_next a01 (frm_next f3 f4)) i4 hv) (fun δ3 t3 σ3 H3 q f4 r4 i4 => h1 δ3 t3 σ3 H3 q (a01.trans (f3.trans f4)) r4 i4)
      (fun δ3 t3 σ3 H3 q f4 r4 i4 => ⟨δ3, t3, q, f3.trans f4, r4, i4⟩) (fun p x t3 H3 q f4 i4 n4 => h5 p x t3 H3 q (frm_next a01 (frm_next f3 f4)) i4 ((n4.back f3).back a01)) ((h6.aft a01).aft f3)
  · obtain ⟨δ', t', v, f, r', i'⟩ := p
    exact h1 δ' t' σ' H' (hd δ' t' v) (a01.trans f) r' i'
end
/-! ### a def that may raise, and its call -/
/-- F what comes back, G what is raised: class and fields -/
def spVR (K : PySem.W.Frag) (A : List PyData → Prop) (F : List PyData → PyData → Prop) (G : List PyData → Addr → List (Str × PyData) → Prop) : Sp := fun vs H Q E => ∃ (Z : Zs) (ds : List PyData), Al Z H ∧ Dvs K (hid Z H) vs ds ∧ A ds ∧
  (∀ v d H', Same H H' → F ds d → Dv K (hid Z H') v d → Q v H') ∧ ∀ CE fs us dd H', G ds CE fs → H dd = none → Same H H' → H' dd = some (.xd ((fs.map (·.1)).zip us)) → Dvs K (hid Z H') us (fs.map (·.2)) → E (.ref CE) (some dd) H'
section
variable {P : Program} {w : World} {K : PySem.W.Frag} {mg : Str → Option Value} {base : Heap}
theorem fun_VR {x qual : Str} {st : Stmt} {f : Addr} {fd : FuncData} {N ps : List Str} {k : Nat} (F : Fun K x qual st f fd) (S : FnScope N ps (defScope st)) {A' : List PyData → Prop} {F' : List PyData → PyData → Prop} {G : List PyData → Addr → List (Str × PyData) → Prop} (hN : ps.length ≤ N.length) (hl : ∀ ds, A' ds → ds.length = ps.length)
    (hbody : ∀ (cdv : Value) (A : Around) (outer : List Env) (s : Shared) (H : Hp) (E : XK) (ds : List PyData), Room k (A.deeper (envOfC qual (defScope st) s.heap.objs.size f cdv)) → A' ds →
      ∃ t, PSs (cxOf (L2.CX P w) P w K mg base N qual (defScope st) f cdv A outer s H E) (defBody st) t ∧ SwE K none E (G ds) (ds.map SV.d ++ List.replicate (N.length - ps.length) .u) 0 t (Fin fun d _ => F' ds d)) : FnOk P w K mg base (L2.CX P w) (k + 1) f fd ps (spVR K A' F' G) := by
  refine F.okX S (fun vs H Q E h => ?_) (fun cdv A outer s H vs Q E hr h => ?_)
  · obtain ⟨Z, ds, _, hv, ha, _⟩ := h
    rw [hv.len, hl ds ha]
  · obtain ⟨Z, ds, al, hv, ha, q, qe⟩ := h
    obtain ⟨t, ht, hw⟩ := hbody cdv A outer s H E ds hr ha
    have sm : ∀ {H' : Hp}, Frm (Mo none (ds.map SV.d ++ List.replicate (N.length - ps.length) .u)) H H' → Same H H' := fun {H'} f b o hb => f.keep b o hb (mo_f.mpr ⟨rfl, by rw [own_d]; simp⟩)
    refine ⟨t, ht, hw Z H _ _ ⟨fun a h => (nomatch h), fun pc h => (nomatch h)⟩ al (rel_start hv (hl ds ha) hN) trivial (fun δ' t' σ' H' e f r i => ?_) (fun d' t' v H' e f i hv' => q v d' H' (sm f) e hv') (fun δ' t' σ' H' e => e.elim) (fun δ' t' σ' H' e => e.elim) (fun p x t' H' e => e.elim) (fun CE fs us dd H' hF hn f hd hu => qe CE fs us dd H' hF hn (sm f) hd hu)⟩
    exact q .non .none H' (sm f.frm) e .non
end
section
variable {K : PySem.W.Frag} {lv : Bool} {W : Wd} {E : XK} {F : Addr → List (Str × PyData) → Prop} {δ : List SV} {t : Nat} {R : Out → Nat → Prop} {tr : TA} {ds : List PyData} {i : Nat}
/-- a def that may raise is called, what comes back is dropped -/
theorem swe_dropR {A : List PyData → Prop} {F' : List PyData → PyData → Prop} {G : List PyData → Addr → List (Str × PyData) → Prop} (h : EvA K true δ tr ds) (hA : A ds) (hG : ∀ CE fs, G ds CE fs → F CE fs) (q : ∀ d, F' ds d → R (.nx δ) t) : SwE K W E F δ t (tDrop (tCall (spVR K A F' G) [] E tr)) R := fun Z H σ D mz al r iw k1 k2 k3 k4 k5 k6 =>
  h Z H σ al r _ fun vs H1 e1 hv => by
    rw [List.append_nil]
    refine ⟨Zl true Z δ, ds, (r.all al true).same e1, hv, hA, fun v d H2 e2 hF hv2 => ?_, fun CE fs us dd H2 hg hn e2 hd hu => ?_⟩
    · exact k1 δ t σ H2 (q d hF) (Aft.of (Frm.of (e1.trans e2)) fun p h => .inl h) (r.same (e1.trans e2)) (iw.same (e1.trans e2))
    · exact k6 CE fs us dd H2 (hG CE fs hg) ((Frm.of (M := fun _ => false) e1).none hn) (Frm.of (e1.trans e2)) hd (hu.same (hid_sub fun a o h z => ⟨h, zl_out z⟩))
end
/-- .. that hands back a new list of whole numbers -/
def spZR (K : PySem.W.Frag) (A : List PyData → Prop) (F : List PyData → List Int → Prop) (G : List PyData → Addr → List (Str × PyData) → Prop) : Sp := fun vs H Q E => ∃ (Z : Zs) (ds : List PyData), Al Z H ∧ Dvs K (hid Z H) vs ds ∧ A ds ∧
  (∀ p zs H', Same H H' → H p = none → H' p = some (.lst (zs.map V.int)) → F ds zs → Q (.ref p) H') ∧ ∀ CE fs us dd H', G ds CE fs → H dd = none → Same H H' → H' dd = some (.xd ((fs.map (·.1)).zip us)) → Dvs K (hid Z H') us (fs.map (·.2)) → E (.ref CE) (some dd) H'
section
variable {P : Program} {w : World} {K : PySem.W.Frag} {mg : Str → Option Value} {base : Heap}
theorem fun_ZR {x qual : Str} {st : Stmt} {f : Addr} {fd : FuncData} {N ps : List Str} {k : Nat} (F : Fun K x qual st f fd) (S : FnScope N ps (defScope st)) {A' : List PyData → Prop} {F' : List PyData → List Int → Prop} {G : List PyData → Addr → List (Str × PyData) → Prop} (hN : ps.length ≤ N.length) (hl : ∀ ds, A' ds → ds.length = ps.length)
    (hbody : ∀ (cdv : Value) (A : Around) (outer : List Env) (s : Shared) (H : Hp) (E : XK) (ds : List PyData), Room k (A.deeper (envOfC qual (defScope st) s.heap.objs.size f cdv)) → A' ds →
      ∃ t, PSs (cxOf (L2.CX P w) P w K mg base N qual (defScope st) f cdv A outer s H E) (defBody st) t ∧ SwE K none E (G ds) (ds.map SV.d ++ List.replicate (N.length - ps.length) .u) 0 t (FinM fun x _ => ∃ zs : List Int, x = .lst (zs.map .int) ∧ F' ds zs)) : FnOk P w K mg base (L2.CX P w) (k + 1) f fd ps (spZR K A' F' G) := by
  refine F.okX S (fun vs H Q E h => ?_) (fun cdv A outer s H vs Q E hr h => ?_)
  · obtain ⟨Z, ds, _, hv, ha, _⟩ := h
    rw [hv.len, hl ds ha]
  · obtain ⟨Z, ds, al, hv, ha, q, qe⟩ := h
    obtain ⟨t, ht, hw⟩ := hbody cdv A outer s H E ds hr ha
    have sm : ∀ {H' : Hp}, Frm (Mo none (ds.map SV.d ++ List.replicate (N.length - ps.length) .u)) H H' → Same H H' := fun {H'} f b o hb => f.keep b o hb (mo_f.mpr ⟨rfl, by rw [own_d]; simp⟩)
    refine ⟨t, ht, hw Z H _ _ ⟨fun a h => (nomatch h), fun pc h => (nomatch h)⟩ al (rel_start hv (hl ds ha) hN) trivial (fun δ' t' σ' H' e f r i => e.elim) (fun d' t' v H' e f i hv' => e.elim) (fun δ' t' σ' H' e => e.elim) (fun δ' t' σ' H' e => e.elim) (fun p x t' H' e f i nw => ?_) (fun CE fs us dd H' hF hn f hd hu => qe CE fs us dd H' hF hn (sm f) hd hu)⟩
    obtain ⟨zs, rfl, hz⟩ := e
    obtain ⟨xs, h1, h2⟩ := nw.ok
    rw [h2.ints] at h1
    refine q p zs H' (sm f) ?_ h1 hz
    rcases nw.new p (List.mem_singleton.mpr rfl) with w | w
    · rw [own_d] at w; simp at w
    · exact w
end
section
variable {K : PySem.W.Frag} {lv : Bool} {δ : List SV} {te ti : TE} {zs : List Int} {n : Nat}
theorem evz_to (h : Ev K lv δ te (.list (zs.map .int))) (hi : Ev K lv δ ti (.int (n : Nat))) : EvZ K δ (tSl (rSlL K) te tNoPart (tPart ti)) (zs.take n) := fun Z H σ al r Q q =>
  h Z H σ al r _ fun v H1 e1 hv => hi Z H1 σ (al.same e1) (r.same e1) _ fun w H2 e2 hw => by
    cases hw
    obtain ⟨a, vs, rfl, ha, hx⟩ := (hv.same (same_hid e2)).list
    obtain rfl := hx.ints
    refine ⟨_, rfl, _, _, rfl, .inl (.inl (of_hid ha).1), fun p hp => ?_⟩
    rw [cut_to, ← List.map_take]
    exact q p _ (Same.new (e1.trans e2) hp) ((Frm.of (M := fun _ => false) (e1.trans e2)).none hp) upd_same
theorem r2_inIT {s : Int} : R2d K (rIn K false) (.int s) (.tuple (zs.map .int)) (.bool (decide (s ∈ zs))) := fun Z H v w al hv hw Q q => by
  cases hv
  obtain ⟨a, vs, rfl, ha, hx⟩ := hw.tuple
  obtain rfl := hx.ints
  refine ⟨a, _, rfl, .inr (same_tup hid_out ha), rfl, flat_ints _, ?_⟩
  rw [show (if false = true then !inV (V.int s) (zs.map V.int) else inV (V.int s) (zs.map V.int)) = decide (s ∈ zs) from inV_ints s zs]
  exact q _ H (Same.refl _) (.bl _)
end
end Fd

set_option maxHeartbeats 1000000
/-! raise C(e, e2): an own class with two attributes -/
namespace Fp
open PySem PySem.Spec PyProof.Rows L2
def spIN2 (C : Addr) (f g : Str) : Sp := fun vs H Q _ => ∃ a v u, vs = [.ref a, v, u] ∧ H a = some (exo a C none) ∧
  ∀ H' dx, H dx = none → (∀ b o, H b = some o → b ≠ a → H' b = some o) → H' a = some (exo a C (some dx)) → H' dx = some (exd dx [(g, u), (f, v)]) → Q .non H'
theorem iniN2 {K : PySem.W.Frag} {FE C a : Addr} {f g : Str} {v u : V} {H : Hp} {Q : VK} (e : EC K FE C) (nf : PySem.W.findIn K (.ref C) f = some none) (ng : PySem.W.findIn K (.ref C) g = some none) (h : H a = some (exo a C none))
    (q : ∀ H' dx, H dx = none → (∀ b o, H b = some o → b ≠ a → H' b = some o) → H' a = some (exo a C (some dx)) → H' dx = some (exd dx [(g, u), (f, v)]) → Q .non H') :
    tSeq (tOst K f (tVar 0) (tVar 1)) (tOst K g (tVar 0) (tVar 2)) { nx := fun _ H' => Q .non H', rt := Q } [some (.ref a), some v, some u] H :=
  ⟨v, rfl, .ref a, rfl, a, C, rfl, e.oex, nf, .inl ⟨h, fun dx hd hn => ⟨u, rfl, .ref a, rfl, a, C, rfl, e.oex, ng, .inr ⟨dx, [(f, v)], upd_same, by rw [upd_ne hn, upd_same], (by decide : 1 ≤ 900),
    q _ dx hd (fun b o hb hne => by
      have n1 := ne_of_none hb hd
      rw [upd_ne n1, upd_ne hne, upd_ne n1]; exact hb) (by rw [upd_ne hn.symm, upd_same]) upd_same⟩⟩⟩⟩
def Xe2 (P : Program) (w : World) (K : PySem.W.Frag) (mg : Str → Option Value) (base : Heap) (C : Addr) (f g : Str) : Prop :=
  ∃ fI fd, OexC K C ∧ PySem.W.findIn K (.ref C) "__init__" = some (some (.ref fI)) ∧ PySem.W.typeIn K (.ref fI) = some (.type "function") ∧ Binds K fd ["self", f, g] [] ∧ FnOk P w K mg base CX0 1 fI fd ["self", f, g] (spIN2 C f g)
def tRaiseN2 (C : Addr) (f g : Str) (te te2 : TE) (W : WX) : TS := fun _ σ H => te σ H fun v H0 => te2 σ H0 fun u H1 => [v, u].length ≤ 1000 ∧ ∀ a, H1 a = none → spIN2 C f g [.ref a, v, u] (upd H1 a (exo a C none))
  (fun r H2 => r = .non ∧ ∃ (d : Addr) (fs : List (Str × V)), H2 a = some (exo a C (some d)) ∧ H2 d = some (exd d fs) ∧ H1 d = none ∧ W (.ref C) (some d) σ (upd (del H2 a) d (.xd fs))) (fun _ _ _ => False)
theorem ps_raiseN2 {X : Cx} {C : Addr} {f g x : Str} {W : WX} {e e2 : Expr} {te te2 : TE} {p pos pos' : Pos} (M : Xe2 X.prog X.w X.K X.mg X.base C f g) (hr : Room 2 X.A) (hg : Gl X x) (hm : X.mg x = some (.ref C)) (hc : X.calm = true) (tk : Takes X W) (he : PE X e te) (he2 : PE X e2 te2)
    (hdb : (x == ("__debug__" : Str)) = false := by decide) (hst : starEach [e, e2] X.env = (false, eval e X.env) :: starEach [e2] X.env := by rfl) (hst2 : starEach [e2] X.env = (false, eval e2 X.env) :: starEach [] X.env := by rfl)
    (hpl : (backTo pos (starEach [e2] X.env)).any (·.1) = false := by rfl) :
    PS X (.Raise (some (.Call (.Name x p) [e, e2] [] pos)) none pos') (tRaiseN2 C f g te te2 W) := by
  obtain ⟨fI, fd, T, iC, tI, hb, F1⟩ := M
  exact ps_raise (pos := pos') hc tk (pmk_oex (p := p) (pos := pos) T iC tI F1 hr hb .nil pass0 hg hm (pa_cons he (pa_cons he2 pa_nil (hs := hst2)) (hs := hst)) hdb hst hpl)
theorem raiseN2_go {C : Addr} {f g : Str} {v u : V} {W : WX} {σ : L2.St} {H : Hp} (q : ∀ d H', H d = none → Same H H' → H' d = some (.xd [(g, u), (f, v)]) → W (.ref C) (some d) σ H') :
    [v, u].length ≤ 1000 ∧ ∀ a, H a = none → spIN2 C f g [.ref a, v, u] (upd H a (exo a C none))
      (fun r H2 => r = .non ∧ ∃ (d : Addr) (fs : List (Str × V)), H2 a = some (exo a C (some d)) ∧ H2 d = some (exd d fs) ∧ H d = none ∧ W (.ref C) (some d) σ (upd (del H2 a) d (.xd fs))) (fun _ _ _ => False) := by
  refine ⟨(by decide : 2 ≤ 1000), fun a ha => ⟨a, v, u, rfl, upd_same, fun H2 dx hd k h1 h2 => ⟨rfl, dx, _, h1, h2, ?_, ?_⟩⟩⟩
  · have n : dx ≠ a := fun z => by rw [z, upd_same] at hd; cases hd
    rw [upd_ne n] at hd
    exact hd
  · have n : dx ≠ a := fun z => by rw [z, upd_same] at hd; cases hd
    rw [upd_ne n] at hd
    refine q dx _ hd (fun b o hb => ?_) upd_same
    rw [upd_ne (ne_of_none hb hd), del_ne (ne_of_none hb ha)]
    exact k b o (by rw [upd_ne (ne_of_none hb ha)]; exact hb) (ne_of_none hb ha)
end Fp
namespace Fd
open PySem PySem.Spec PyProof.Rows L2 Fp
section
variable {K : PySem.W.Frag} {W : Wd} {E : XK} {F : Addr → List (Str × PyData) → Prop} {δ : List SV} {t : Nat} {R : Out → Nat → Prop} {te te2 : TE} {d d2 : PyData}
/-- raise C(e, e2) -/
theorem swe_raise2 {C : Addr} {f g : Str} (h : Ev K true δ te d) (h2 : Ev K true δ te2 d2) (hF : F C [(g, d2), (f, d)]) : SwE K W E F δ t (tRaiseN2 C f g te te2 fun cls od _ H' => E cls od H') R := fun Z H σ D mz al r iw q1 q2 q3 q4 q5 q6 => h Z H σ al r _ fun v H1 e hv =>
  h2 Z H1 σ (al.same e) (r.same e) _ fun u H2 e2 hu =>
  raiseN2_go (C := C) (f := f) (g := g) (W := fun cls od _ H' => E cls od H') (σ := σ) fun dd H' hn e3 hd => q6 C [(g, d2), (f, d)] [u, v] dd H' hF ((Frm.of (M := fun _ => false) (e.trans e2)).none hn) (Frm.of ((e.trans e2).trans e3)) hd
    (.cons (hu.same (hid_sub fun a o h z => ⟨e3 a o h, zl_out z⟩)) (.cons (hv.same (hid_sub fun a o h z => ⟨(e2.trans e3) a o h, zl_out z⟩)) .nil))
end
end Fd

set_option maxHeartbeats 1000000
/-! a new thing, or an error; where a number stands in a list -/
namespace Fd
open PySem PySem.Spec PyProof.Rows L2 Fp
def spVOR (K : PySem.W.Frag) (A : List PyData → Prop) (F : List PyData → OV → Prop) (G : List PyData → Addr → List (Str × PyData) → Prop) : Sp := fun vs H Q E => ∃ (Z : Zs) (ds : List PyData), Al Z H ∧ Dvs K (hid Z H) vs ds ∧ A ds ∧
  (∀ p x H', Same H H' → F ds x → OvAt K (hid (fun a => Z a || decide (a ∈ x.adrs p)) H') H' p x → (∀ a ∈ x.adrs p, H a = none) → (x.adrs p).Nodup → Q (.ref p) H') ∧ ∀ CE fs us dd H', G ds CE fs → H dd = none → Same H H' → H' dd = some (.xd ((fs.map (·.1)).zip us)) → Dvs K (hid Z H') us (fs.map (·.2)) → E (.ref CE) (some dd) H'
section
variable {P : Program} {w : World} {K : PySem.W.Frag} {mg : Str → Option Value} {base : Heap}
theorem fun_VOR {x qual : Str} {st : Stmt} {f : Addr} {fd : FuncData} {N ps : List Str} {k : Nat} (F : Fun K x qual st f fd) (S : FnScope N ps (defScope st)) {A' : List PyData → Prop} {F' : List PyData → OV → Prop} {G : List PyData → Addr → List (Str × PyData) → Prop} (hN : ps.length ≤ N.length) (hl : ∀ ds, A' ds → ds.length = ps.length)
    (hbody : ∀ (cdv : Value) (A : Around) (outer : List Env) (s : Shared) (H : Hp) (E : XK) (ds : List PyData), Room k (A.deeper (envOfC qual (defScope st) s.heap.objs.size f cdv)) → A' ds →
      ∃ t, PSs (cxOf (L2.CX P w) P w K mg base N qual (defScope st) f cdv A outer s H E) (defBody st) t ∧ SwE K none E (G ds) (ds.map SV.d ++ List.replicate (N.length - ps.length) .u) 0 t (FinM fun x _ => F' ds x)) : FnOk P w K mg base (L2.CX P w) (k + 1) f fd ps (spVOR K A' F' G) := by
  refine F.okX S (fun vs H Q E h => ?_) (fun cdv A outer s H vs Q E hr h => ?_)
  · obtain ⟨Z, ds, _, hv, ha, _⟩ := h
    rw [hv.len, hl ds ha]
  · obtain ⟨Z, ds, al, hv, ha, q, qe⟩ := h
    obtain ⟨t, ht, hw⟩ := hbody cdv A outer s H E ds hr ha
    have sm : ∀ {H' : Hp}, Frm (Mo none (ds.map SV.d ++ List.replicate (N.length - ps.length) .u)) H H' → Same H H' := fun {H'} f b o hb => f.keep b o hb (mo_f.mpr ⟨rfl, by rw [own_d]; simp⟩)
    refine ⟨t, ht, hw Z H _ _ ⟨fun a h => (nomatch h), fun pc h => (nomatch h)⟩ al (rel_start hv (hl ds ha) hN) trivial (fun δ' t' σ' H' e f r i => e.elim) (fun d' t' v H' e f i hv' => e.elim) (fun δ' t' σ' H' e => e.elim) (fun δ' t' σ' H' e => e.elim) (fun p x t' H' e f i nw => ?_) (fun CE fs us dd H' hF hn f hd hu => qe CE fs us dd H' hF hn (sm f) hd hu)⟩
    refine q p x H' (sm f) e nw.ok (fun a ha => ?_) nw.nd
    rcases nw.new a ha with w | w
    · rw [own_d] at w; simp at w
    · exact w
end
section
variable {K : PySem.W.Frag} {lv : Bool} {δ : List SV} {to te : TE} {zs : List Int} {x : Int}
theorem ints_shaped : ∀ zs : List Int, PyData.hasDictAll (zs.map .int) = false ∧ PyData.canLayAll0 (zs.map .int) = true ∧ PyData.depthAll (zs.map .int) ≤ 1
  | [] => ⟨rfl, rfl, Nat.zero_le _⟩
  | z :: r => by
    have ih := ints_shaped r
    exact ⟨by show (false || _) = _; rw [ih.1]; rfl, by show (true && _) = _; rw [ih.2.1]; rfl, by show max _ _ ≤ 1; exact Nat.max_le.mpr ⟨Nat.zero_le _, ih.2.2⟩⟩
theorem ev_indexI (h : Ev K lv δ to (.list (zs.map .int))) (hx : Ev K lv δ te (.int x)) (hm : x ∈ zs) : Ev K lv δ (tBM K "list" (rIndexD K) to (tCons te tNil)) (.int ((zs.idxOf x : Nat) : Int)) := by
  obtain ⟨h1, h2, h3⟩ := ints_shaped zs
  have hl : zs.idxOf x < zs.length := List.idxOf_lt_length_iff.mpr hm
  refine ev_indexD (y := .int x) h hx h1 rfl ?_ rfl (by rw [List.getElem?_map, List.getElem?_eq_getElem hl, List.getElem_idxOf]; rfl) (by show ((x == x : Bool)) = true; simp) fun m z hm hz => ?_
  · show (PyData.canLayAll0 _ && decide (PyData.depthAll _ + 1 ≤ 64)) = true
    rw [h2, decide_eq_true (by omega)]
    rfl
  · rw [List.getElem?_map] at hz
    obtain ⟨y, hy, rfl⟩ := Option.map_eq_some_iff.mp hz
    show ((y == x : Bool)) = false
    obtain ⟨hl2, rfl⟩ := List.getElem?_eq_some_iff.mp hy
    have := List.not_of_lt_findIdx (p := fun z => z == x) (xs := zs) (i := m) hm
    simpa using this
end
end Fd

set_option maxHeartbeats 1000000
/-! methods that hand back a new list or a new thing, or raise -/
namespace Fd
open PySem PySem.Spec PyProof.Rows L2 Fp LamX
section
variable {K : PySem.W.Frag} {lv : Bool} {W : Wd} {δ : List SV} {ta : TE} {tr : TA} {ds : List PyData} {C : Addr} {kvs : List (PyData × PyData)} {A : List PyData → Prop} {r : List Int} {m : Str} {i t : Nat} {R : Out → Nat → Prop} {p : Addr} {c : Addr × List NdefX.NTab} {L : List (Addr × List Str × Str)}
/-- one that doesn't raise here -/
theorem evz_methZR {E : XK} {F : List PyData → List Int → Prop} {G : List PyData → Addr → List (Str × PyData) → Prop} (ha : Ev K lv δ ta (iD C kvs)) (hm : fld m kvs = none) (ht : EvA K lv δ tr ds) (hA : A (iD C kvs :: ds)) (hF : ∀ zs, F (iD C kvs :: ds) zs → zs = r) (hG : ∀ CE fs, ¬ G (iD C kvs :: ds) CE fs) :
    EvZ K δ (tMeth C m (spZR K A F G) [] E ta tr) r := fun Z H σ al re Q q => ha Z H σ al re _ fun v H1 e1 hv => by
  obtain ⟨a, dx, fs, rfl, hi, hfs⟩ := hv.inst
  refine ⟨a, dx, fs, rfl, (of_hid hi).1, hfs.no hm, ht Z H1 σ (al.same e1) (re.same e1) _ fun vs H2 e2 hvs => ?_⟩
  rw [List.append_nil]
  have e12 := e1.trans e2
  refine ⟨Zl lv Z δ, _, (re.all al lv).same e12, .cons (hv.same (same_hid e2)) hvs, hA, fun p zs H3 e3 hn hl hz => ?_, fun CE fs us dd H3 hg => absurd hg (hG CE fs)⟩
  rw [hF zs hz] at hl
  exact q p H3 (e12.trans e3) ((Frm.of (M := fun _ => false) e12).none hn) hl
/-- .. that may: as a reading that may raise -/
theorem evr_methZR {RD : PyData → Prop} {FD : Addr → List (Str × PyData) → Prop} {F : List PyData → List Int → Prop} {G : List PyData → Addr → List (Str × PyData) → Prop} (ha : Ev K lv δ ta (iD C kvs)) (hm : fld m kvs = none) (ht : EvA K lv δ tr ds) (hA : A (iD C kvs :: ds)) (hF : ∀ zs, F (iD C kvs :: ds) zs → RD (.list (zs.map .int))) (hG : ∀ CE fs, G (iD C kvs :: ds) CE fs → FD CE fs) :
    EvR K lv δ (fun E => tMeth C m (spZR K A F G) [] E ta tr) RD FD := fun Z H σ al re E Q q qe => ha Z H σ al re _ fun v H1 e1 hv => by
  obtain ⟨a, dx, fs, rfl, hi, hfs⟩ := hv.inst
  refine ⟨a, dx, fs, rfl, (of_hid hi).1, hfs.no hm, ht Z H1 σ (al.same e1) (re.same e1) _ fun vs H2 e2 hvs => ?_⟩
  rw [List.append_nil]
  have e12 := e1.trans e2
  refine ⟨Zl lv Z δ, _, (re.all al lv).same e12, .cons (hv.same (same_hid e2)) hvs, hA, fun p zs H3 e3 hn hl hz => ?_, fun CE fs us dd H3 hg hn e3 hd hu => qe CE fs us dd H3 (hG CE fs hg) ((Frm.of (M := fun _ => false) e12).none hn) (e12.trans e3) hd hu⟩
  exact q _ _ H3 (e12.trans e3) (hF zs hz) (.lst (hid_in hl (((re.all al lv).same e12).off hn)) (dvs_ints zs))
/-- a method that hands back a new thing and doesn't raise here -/
theorem evn_methVOR {E : XK} {F : List PyData → OV → Prop} {G : List PyData → Addr → List (Str × PyData) → Prop} (ha : Ev K lv δ ta (iD C kvs)) (hm : fld m kvs = none) (ht : EvA K lv δ tr ds) (hA : A (iD C kvs :: ds)) (hf : ∀ x, F (iD C kvs :: ds) x → flatO x = true) (hG : ∀ CE fs, ¬ G (iD C kvs :: ds) CE fs) :
    EvN K δ (tMeth C m (spVOR K A F G) [] E ta tr) (F (iD C kvs :: ds)) := fun Z H σ al re Q q => ha Z H σ al re _ fun v H1 e1 hv => by
  obtain ⟨a, dx, fs, rfl, hi, hfs⟩ := hv.inst
  refine ⟨a, dx, fs, rfl, (of_hid hi).1, hfs.no hm, ht Z H1 σ (al.same e1) (re.same e1) _ fun vs H2 e2 hvs => ?_⟩
  rw [List.append_nil]
  have e12 := e1.trans e2
  refine ⟨Zl lv Z δ, _, (re.all al lv).same e12, .cons (hv.same (same_hid e2)) hvs, hA, fun p x H3 e3 hx ho hn nd => ?_, fun CE fs us dd H3 hg => absurd hg (hG CE fs)⟩
  exact q p x H3 (e12.trans e3) hx (hf x hx) (fun Hh => ho.flat (hf x hx)) (fun a ha => (Frm.of (M := fun _ => false) e12).none (hn a ha)) nd
/-- .. and where it always raises here: as a reading -/
theorem evr_methVOR {FD : Addr → List (Str × PyData) → Prop} {F : List PyData → OV → Prop} {G : List PyData → Addr → List (Str × PyData) → Prop} (ha : Ev K lv δ ta (iD C kvs)) (hm : fld m kvs = none) (ht : EvA K lv δ tr ds) (hA : A (iD C kvs :: ds)) (hF : ∀ x, ¬ F (iD C kvs :: ds) x) (hG : ∀ CE fs, G (iD C kvs :: ds) CE fs → FD CE fs) :
    EvR K lv δ (fun E => tMeth C m (spVOR K A F G) [] E ta tr) (fun _ => False) FD := fun Z H σ al re E Q q qe => ha Z H σ al re _ fun v H1 e1 hv => by
  obtain ⟨a, dx, fs, rfl, hi, hfs⟩ := hv.inst
  refine ⟨a, dx, fs, rfl, (of_hid hi).1, hfs.no hm, ht Z H1 σ (al.same e1) (re.same e1) _ fun vs H2 e2 hvs => ?_⟩
  rw [List.append_nil]
  have e12 := e1.trans e2
  exact ⟨Zl lv Z δ, _, (re.all al lv).same e12, .cons (hv.same (same_hid e2)) hvs, hA, fun p x H3 e3 hx => absurd hx (hF x), fun CE fs us dd H3 hg hn e3 hd hu => qe CE fs us dd H3 (hG CE fs hg) ((Frm.of (M := fun _ => false) e12).none hn) (e12.trans e3) hd hu⟩
/-- x = tried(lambda: ..), where a new thing comes back -/
theorem sw_triedN {tl : XK → TE} {G : OV → Prop} (h : ∀ E, EvN K δ (tl E) G) (hi : i < δ.length) (q : ∀ p' x, G x → R (.nx (δ.set i (.o p' x))) t) : Sw K (some (p, c)) δ t (tAsg (tLamB c.2 (TTd L) tl) (gName i)) R := fun Z H σ D mz al r iw k1 k2 k3 k4 k5 => by
  refine ⟨iw.2, fun H1 e T1 => ?_⟩
  have f := ext_frm (p := p) e
  have i1 := ext_iw iw e T1
  have r1 := r.frm f mz.m
  have al1 := f.alz al
  refine h _ Z H1 σ al1 r1 _ fun p' x H2 e2 hg hf ho hn nd => ⟨_, rfl, ?_⟩
  obtain ⟨h1, h2⟩ := new_slot al1 r1 e2 hf ho hn nd hi
  refine k1 _ t _ H2 (q p' x hg) (Aft.of (f.trans (Frm.of e2)) fun b hb => ?_) h1 (i1.same e2)
  exact (h2 b hb).imp id f.none
end
end Fd

set_option maxHeartbeats 1000000
/-! a table that goes into another keeps its rules -/
namespace Fd
open PySem PySem.Spec PyProof.Rows L2 Fp Classical
structure Hom (m : Nat) (P : List (List Int)) (n : Nat) (M : List (List Int)) (f : Int → Int) : Prop where
  tP : Tbl m P
  ok : ∀ x, OkV m x → OkV n (f x)
  mul : ∀ x, OkV m x → ∀ y, OkV m y → f (cel P x y) = cel M (f x) (f y)
  inj : ∀ x, OkV m x → ∀ y, OkV m y → f x = f y → x = y
section
variable {m n : Nat} {P M : List (List Int)} {f : Int → Int}
theorem Hom.c (h : Hom m P n M f) {x y : Int} (hx : OkV m x) (hy : OkV m y) : OkV m (cel P x y) := h.tP.cel_ok hx hy
theorem Hom.grp (h : Hom m P n M f) (g : Grp n M) : Grp m P := fun x hx y hy z hz => h.inj _ (h.c (h.c hx hy) hz) _ (h.c hx (h.c hy hz)) (by
  rw [h.mul _ (h.c hx hy) _ hz, h.mul _ hx _ hy, h.mul _ hx _ (h.c hy hz), h.mul _ hy _ hz]
  exact g _ (h.ok _ hx) _ (h.ok _ hy) _ (h.ok _ hz))
theorem Hom.idem (h : Hom m P n M f) (g : Idem n M) : Idem m P := fun x hx => h.inj _ (h.c hx hx) _ hx (by
  rw [h.mul _ hx _ hx]
  exact g _ (h.ok _ hx))
theorem Hom.mid (h : Hom m P n M f) (g : Mid n M) : Mid m P := fun x hx y hy z hz => h.inj _ (h.c (h.c (h.c (h.c hx hy) hx) hz) hx) _ (h.c (h.c (h.c hx hy) hz) hx) (by
  rw [h.mul _ (h.c (h.c (h.c hx hy) hx) hz) _ hx, h.mul _ (h.c (h.c hx hy) hx) _ hz, h.mul _ (h.c hx hy) _ hx, h.mul _ (h.c (h.c hx hy) hz) _ hx, h.mul _ (h.c hx hy) _ hz, h.mul _ hx _ hy]
  exact g _ (h.ok _ hx) _ (h.ok _ hy) _ (h.ok _ hz))
theorem Hom.kept (h : Hom m P n M f) {r : Str} (hr : r ∈ R9s) (k : keptP n M r) : keptP m P r := by
  have F : (∀ x, OkV n x → ∀ y, OkV n y → cel M (cel M x y) x = cel M x y) → ∀ x, OkV m x → ∀ y, OkV m y → cel P (cel P x y) x = cel P x y := fun g x hx y hy => h.inj _ (h.c (h.c hx hy) hx) _ (h.c hx hy) (by
    rw [h.mul _ (h.c hx hy) _ hx, h.mul _ hx _ hy]
    exact g _ (h.ok _ hx) _ (h.ok _ hy))
  have Lf : (∀ x, OkV n x → ∀ y, OkV n y → cel M (cel M x y) x = cel M y x) → ∀ x, OkV m x → ∀ y, OkV m y → cel P (cel P x y) x = cel P y x := fun g x hx y hy => h.inj _ (h.c (h.c hx hy) hx) _ (h.c hy hx) (by
    rw [h.mul _ (h.c hx hy) _ hx, h.mul _ hx _ hy, h.mul _ hy _ hx]
    exact g _ (h.ok _ hx) _ (h.ok _ hy))
  have Ef : (∀ x, OkV n x → ∀ y, OkV n y → ∀ z, OkV n z → cel M (cel M x y) z = cel M x z) → ∀ x, OkV m x → ∀ y, OkV m y → ∀ z, OkV m z → cel P (cel P x y) z = cel P x z := fun g x hx y hy z hz => h.inj _ (h.c (h.c hx hy) hz) _ (h.c hx hz) (by
    rw [h.mul _ (h.c hx hy) _ hz, h.mul _ hx _ hy, h.mul _ hx _ hz]
    exact g _ (h.ok _ hx) _ (h.ok _ hy) _ (h.ok _ hz))
  unfold R9s at hr
  simp only [List.mem_cons, List.not_mem_nil, or_false] at hr
  rcases hr with rfl | rfl | rfl | rfl | rfl | rfl | rfl | rfl | rfl
  · exact kG.mpr (h.grp (kG.mp k))
  · exact kO.mpr fun x hx y hy => h.inj _ (h.c hx hy) _ (h.c hy hx) (by
      rw [h.mul _ hx _ hy, h.mul _ hy _ hx]
      exact kO.mp k _ (h.ok _ hx) _ (h.ok _ hy))
  · unfold keptP at k ⊢
    rw [if_neg (by decide), if_pos rfl] at k ⊢
    rcases k with ⟨⟨g, i⟩, k⟩ | ⟨⟨g, i⟩, k⟩ | ⟨⟨g, i⟩, k⟩ | ⟨⟨g, i⟩, k⟩
    · have k := (kF.mp (by unfold keptP; simp (config := { decide := true }) only [if_false, if_true, true_or, or_true]; exact ⟨⟨g, i⟩, k⟩ : keptP n M "first")).2
      exact .inl (kS (.inl rfl) (kF.mpr ⟨⟨h.grp g, h.idem i⟩, F k⟩))
    · have k := (kL.mp (by unfold keptP; simp (config := { decide := true }) only [if_false, if_true, true_or, or_true]; exact ⟨⟨g, i⟩, k⟩ : keptP n M "last")).2
      exact .inr (.inl (kS (.inr (.inl rfl)) (kL.mpr ⟨⟨h.grp g, h.idem i⟩, Lf k⟩)))
    · have k := (kE.mp (by unfold keptP; simp (config := { decide := true }) only [if_false, if_true, true_or, or_true]; exact ⟨⟨g, i⟩, k⟩ : keptP n M "ends")).2
      exact .inr (.inr (.inl (kS (.inr (.inr rfl)) (kE.mpr ⟨⟨h.grp g, h.idem i⟩, Ef k⟩))))
    · exact .inr (.inr (.inr ⟨⟨h.grp g, h.idem i⟩, h.mid k⟩))
  · obtain ⟨⟨g, i⟩, k⟩ := kF.mp k
    exact kF.mpr ⟨⟨h.grp g, h.idem i⟩, F k⟩
  · obtain ⟨⟨g, i⟩, k⟩ := kL.mp k
    exact kL.mpr ⟨⟨h.grp g, h.idem i⟩, Lf k⟩
  · obtain ⟨⟨g, i⟩, k⟩ := kE.mp k
    exact kE.mpr ⟨⟨h.grp g, h.idem i⟩, Ef k⟩
  · exact kK.mpr fun x hx y hy => h.inj _ (h.c hx hy) _ hx (by rw [h.mul _ hx _ hy]; exact kK.mp k _ (h.ok _ hx) _ (h.ok _ hy))
  · exact kT.mpr fun x hx y hy => h.inj _ (h.c hx hy) _ hy (by rw [h.mul _ hx _ hy]; exact kT.mp k _ (h.ok _ hx) _ (h.ok _ hy))
  · obtain ⟨g, k⟩ := kV.mp k
    refine kV.mpr ⟨h.grp g, fun x hx => ⟨fun y hy => h.inj _ (h.c (h.c hx hx) hy) _ hy ?_, fun y hy => h.inj _ (h.c (h.c hy hx) hx) _ hy ?_⟩⟩
    · rw [h.mul _ (h.c hx hx) _ hy, h.mul _ hx _ hx]
      exact (k _ (h.ok _ hx)).1 _ (h.ok _ hy)
    · rw [h.mul _ (h.c hy hx) _ hx, h.mul _ hy _ hx]
      exact (k _ (h.ok _ hx)).2 _ (h.ok _ hy)
theorem Hom.rules (h : Hom m P n M f) (t : Tbl n M) (hn : 1 ≤ n) (hm : 1 ≤ m) {r : Str} (k : r ∈ rulesKept M) : r ∈ rulesKept P := by
  rw [← kept_rules_eq t hn, List.mem_filter, decide_eq_true_eq] at k
  rw [← kept_rules_eq h.tP hm, List.mem_filter, decide_eq_true_eq]
  exact ⟨k.1, h.kept k.1 k.2⟩
end
end Fd

set_option maxHeartbeats 1000000
/-! a def on data that makes lambdas: the tables of code objects may grow; the pen, though no argument, stays -/
namespace Fd
open PySem PySem.Spec PyProof.Rows L2 Fp LamX
def spVT (K : PySem.W.Frag) (T : List NdefX.NTab) (F : List PyData → PyData → Prop) : Sp := fun vs H Q _ => ∃ (p : Addr) (c : Addr × List NdefX.NTab) (t : Nat) (Z : Zs) (ds : List PyData) (d : PyData), c.2 = T ∧ t ≤ 1000000000 ∧ Hd (some (p, c)) Z ∧ Al Z H ∧ Dvs K (hid Z H) vs ds ∧ Iw (some (p, c)) t H ∧ F ds d ∧
  ∀ v H', Frm (Mw (some (p, c))) H H' → Iw (some (p, c)) t H' → Dv K (hid Z H') v d → Q v H'
theorem iw_any {p : Addr} {c : Addr × List NdefX.NTab} {t t' : Nat} {H : Hp} (a : Iw (some (p, c)) t H) (h : t ≤ t') : Iw (some (p, c)) t' H := a.mono h
section
variable {P : Program} {w : World} {K : PySem.W.Frag} {mg : Str → Option Value} {base : Heap}
theorem fun_VT {x qual : Str} {st : Stmt} {f : Addr} {N ps : List Str} {k : Nat} {T : List NdefX.NTab} {oc kV doc pm cdv ct : Value} {od an : Option Addr} {osl : Array (Option Value)}
    (lk : K.lookup f = some ⟨oc, od, .func (PySem.W.fnOf x qual (defArgs st) (defBody st) (defScope st) .none kV doc pm an cdv ct), osl⟩) (hcd : PySem.W.codeIn K cdv qual = true) (S : FnScope N ps (defScope st)) {F' : List PyData → PyData → Prop} (hN : ps.length ≤ N.length) (hl : ∀ ds d, F' ds d → ds.length = ps.length)
    (hbody : ∀ (A : Around) (outer : List Env) (s : Shared) (H : Hp) (E : XK) (p : Addr) (c : Addr × List NdefX.NTab) (t : Nat) (ds : List PyData) (d : PyData), Room k (A.deeper (envOfC qual (defScope st) s.heap.objs.size f cdv)) → c.2 = T → t ≤ 1000000000 → F' ds d →
      ∃ ts, PSs (cxOf CX0 P w K mg base N qual (defScope st) f cdv A outer s H E).nox (defBody st) ts ∧ Sw K (some (p, c)) (ds.map SV.d ++ List.replicate (N.length - ps.length) .u) t ts (Fin fun d' t' => d' = d ∧ t' = t)) :
    FnOk P w K mg base CX0 (k + 1) f (PySem.W.fnOf x qual (defArgs st) (defBody st) (defScope st) .none kV doc pm an cdv ct) ps (spVT K T F') := by
  refine fn_cd lk hcd S (fun vs H Q E h => ?_) fun A outer s H vs Q E hr h => ?_
  · obtain ⟨_, _, _, _, ds, d, _, _, _, _, hv, _, hf, _⟩ := h
    rw [hv.len, hl ds d hf]
  · obtain ⟨p, c, t, Z, ds, d, hc, htb, hd, al, hv, iw, hf, q⟩ := h
    obtain ⟨ts, ht, hw⟩ := hbody A outer s H E p c t ds d hr hc htb hf
    have fr : ∀ {H' : Hp}, Frm (Mo (some (p, c)) (ds.map SV.d ++ List.replicate (N.length - ps.length) .u)) H H' → Frm (Mw (some (p, c))) H H' := fun {H'} f => ⟨fun b o hb m => f.keep b o hb (mo_f.mpr ⟨m, by rw [own_d]; simp⟩), f.al⟩
    refine ⟨ts, ht, hw Z H _ _ hd al (rel_start hv (hl ds d hf) hN) iw (fun δ' t' σ' H' e f r i => ?_) (fun d' t' v H' e f i hv' => ?_) (fun δ' t' σ' H' e => e.elim) (fun δ' t' σ' H' e => e.elim) (fun p x t' H' e => e.elim)⟩
    · obtain ⟨e1, rfl⟩ := e
      exact q .non H' (fr f.frm) i (by rw [← e1]; exact .non)
    · obtain ⟨rfl, rfl⟩ := e
      exact q v H' (fr f) i hv'
end
section
variable {K : PySem.W.Frag} {lv : Bool} {δ : List SV} {tr : TA} {ds : List PyData} {d : PyData} {p : Addr} {c : Addr × List NdefX.NTab} {F : List PyData → PyData → Prop}
theorem ex_callT (h : EvA K lv δ tr ds) (hF : F ds d) : Ex K lv (some (p, c)) δ (tCall (spVT K c.2 F) [] E0 tr) 0 (fun x => x = d) := fun Z H σ t mz al r iw ht Q q => h Z H σ al r _ fun vs H1 e1 hv => by
  rw [List.append_nil]
  refine ⟨p, c, t, Zl lv Z δ, ds, d, rfl, ht, mz.sub fun a z => zl_in z, (r.all al lv).same e1, hv, iw.same e1, hF, fun v H2 f2 i2 hv2 => ?_⟩
  exact q v d H2 ((Frm.of e1).trans f2) i2 rfl hv2
end
section
variable {K : PySem.W.Frag} {lv : Bool} {δ : List SV} {te : TE} {d : PyData}
/-- a new thing that nobody changes: data -/
theorem EvN.ev {G : OV → Prop} (h : EvN K δ te G) (hd : ∀ x, G x → datO x = d) : Ev K lv δ te d := fun Z H σ al r Q q => h Z H σ al r Q fun p x H' e hg hf ho hn nd => by
  have := dv_flat (K := K) (Z := Zl lv Z δ) (H := H') hf ho fun a ha => (r.all al lv).off (hn a ha)
  rw [hd x hg] at this
  exact q _ H' e this
end
end Fd

set_option maxHeartbeats 1000000
/-! arguments that draw: slices, defs on data that make lambdas, methods that hand back a new list; repr of lists of ints -/
namespace Fd
open PySem PySem.Spec PyProof.Rows L2 Fp LamX
section
variable {K : PySem.W.Frag} {lv : Bool} {W : Wd} {δ : List SV} {te ti ta : TE} {tr : TA} {tt tu : TT} {ds : List PyData} {d : PyData} {C : Addr} {kvs : List (PyData × PyData)} {A : List PyData → Prop} {r : List Int} {mm : Str} {i t n m : Nat} {R : Out → Nat → Prop} {p : Addr} {c : Addr × List NdefX.NTab} {RA : List PyData → Prop} {P P1 : Bool → Prop}
theorem ex_to {P : PyData → Prop} (h : Ev K lv δ te (.list ds)) (hi : Ex K lv W δ ti n P) (hP : ∀ d, P d → ∃ k : Nat, d = .int (k : Nat)) : Ex K lv W δ (tSl (rSlL K) te tNoPart (tPart ti)) n (fun d => ∃ k : Nat, P (.int (k : Nat)) ∧ d = .list (ds.take k)) := fun Z H σ t mz al r iw ht Q q =>
  h Z H σ al r _ fun v H1 e1 hv => hi Z H1 σ t mz (al.same e1) (r.same e1) (iw.same e1) ht _ fun w d H2 f2 i2 rd hw => by
    obtain ⟨k, rfl⟩ := hP d rd
    cases hw
    obtain ⟨a, vs, rfl, ha, hx⟩ := (hv.same (f2.hid (mz_o mz.m))).list
    refine ⟨_, rfl, _, _, rfl, .inl (.inl (of_hid ha).1), fun p hp => ?_⟩
    rw [cut_to]
    have f := (Frm.of (M := Mw W) e1).trans f2
    exact q _ _ _ (f.trans (Frm.of (same_new hp))) (i2.same (same_new hp)) ⟨k, rd, rfl⟩ (.lst (hid_new ((r.frm f mz.m).all (f.alz al) lv) hp) ((hx.take k).same (same_hid (same_new hp))))
theorem ex_ifX {R' : PyData → Prop} (h : ExB K W δ tt n P) (h1 : P true → Ex K lv W δ ta m R') (h2 : P false → Ex K lv W δ te m R') : Ex K lv W δ (tIf tt ta te) (n + m) R' := fun Z H σ t hd al r iw ht Q q => h Z H σ t hd al r iw (by omega) _ fun b H' f i p => by
  have go : ∀ {tx : TE}, Ex K lv W δ tx m R' → tx σ H' Q := fun hx => hx Z H' σ (t + n) hd (f.alz al) (r.frm f hd.m) i (by omega) _ fun v d H2 f2 i2 rd hv => q v d H2 (f.trans f2) (by rw [← Nat.add_assoc]; exact i2) rd hv
  cases b with
  | true => exact go (h1 p)
  | false => exact go (h2 p)
theorem ev_neg {j : Int} (h : Ev K lv δ te (.int j)) : Ev K lv δ (tUn (rU fun i => .int (-i)) te) (.int (-j)) := fun Z H σ al r Q q => h Z H σ al r _ fun v H1 e hv => by
  cases hv
  exact ⟨_, rfl, q _ H1 e (.int _)⟩
theorem r2_pow {i j : Int} (h : CPow i j) : R2d K (rI CPow fun i j => .int (i ^ j.toNat)) (.int i) (.int j) (.int (i ^ j.toNat)) := r2_II (fun _ => .int _) h
theorem exb_orX (h : ExB K W δ tt m P1) (h1 : P1 true → P true) (h2 : P1 false → ExB K W δ tu n P) : ExB K W δ (tOr tt tu) (m + n) P := fun Z H σ t hd al r iw ht Q q => h Z H σ t hd al r iw (by omega) _ fun b H' f i p => by
  cases b with
  | true => exact q true H' f (i.mono (by omega)) (h1 p)
  | false => exact h2 p Z H' σ (t + m) hd (f.alz al) (r.frm f hd.m) i (by omega) _ fun b H2 f2 i2 p2 => q b H2 (f.trans f2) (by rw [← Nat.add_assoc]; exact i2) p2
theorem ex_callTX {F : List PyData → PyData → Prop} (h : ExA K lv (some (p, c)) δ tr m RA) (hF : ∀ ds, RA ds → F ds d) : Ex K lv (some (p, c)) δ (tCall (spVT K c.2 F) [] E0 tr) m (fun x => x = d) := fun Z H σ t mz al r iw ht Q q => h Z H σ t mz al r iw ht _ fun vs ds H1 f1 i1 rd hv => by
  rw [List.append_nil]
  exact ⟨p, c, t + m, Zl lv Z δ, ds, d, rfl, ht, mz.sub fun a z => zl_in z, (r.frm f1 mz.m).all (f1.alz al) lv, hv, i1, hF ds rd, fun v H2 f2 i2 hv2 => q v d H2 (f1.trans f2) i2 rfl hv2⟩
theorem sw_asgZX {E : XK} {F : List PyData → List Int → Prop} {G : List PyData → Addr → List (Str × PyData) → Prop} (ha : Ev K lv δ ta (iD C kvs)) (hm : fld mm kvs = none) (ht : ExA K lv W δ tr n RA) (hb : t + n ≤ 1000000000) (hA : ∀ ds, RA ds → A (iD C kvs :: ds)) (hF : ∀ ds, RA ds → ∀ zs, F (iD C kvs :: ds) zs → zs = r) (hG : ∀ ds, RA ds → ∀ CE fs, ¬ G (iD C kvs :: ds) CE fs)
    (hi : i < δ.length) (q : ∀ p, R (.nx (δ.set i (.o p (.lst (r.map .int))))) (t + n)) : Sw K W δ t (tAsg (tMeth C mm (spZR K A F G) [] E ta tr) (gName i)) R := fun Z H σ D mz al re iw k1 k2 k3 k4 k5 => ha Z H σ al re _ fun v H1 e1 hv => by
  obtain ⟨a, dx, fs, rfl, hi', hfs⟩ := hv.inst
  refine ⟨a, dx, fs, rfl, (of_hid hi').1, hfs.no hm, ht Z H1 σ t mz (al.same e1) (re.same e1) (iw.same e1) hb _ fun vs ds H2 f2 i2 rd hvs => ?_⟩
  rw [List.append_nil]
  have f := (Frm.of (M := Mw W) e1).trans f2
  have r2 := re.frm f mz.m
  have al2 := f.alz al
  refine ⟨Zl lv Z δ, _, r2.all al2 lv, .cons (hv.same (f2.hid (mz_o mz.m))) hvs, hA ds rd, fun p zs H3 e3 hn hl hz => ?_, fun CE fs us dd H3 hg => absurd hg (hG ds rd CE fs)⟩
  rw [hF ds rd zs hz] at hl
  have hp' : ∀ a ∈ OV.adrs p (.lst (r.map .int)), H2 a = none := fun a ha => by rw [List.mem_singleton.mp ha]; exact hn
  refine k1 _ (t + n) _ H3 (q p) (Aft.of (f.trans (Frm.of e3)) fun b hb => ?_) (r2.mine (x := .lst (r.map .int)) al2 e3 hp' (List.nodup_cons.mpr ⟨by simp, List.nodup_nil⟩) (fun Hh s => ⟨_, hl, dvs_ints r⟩) hi) (i2.same e3)
  rcases own_set _ i b hb with w | w
  · exact .inr (f.none (hp' b w))
  · exact .inl w
theorem ra_reprA (h1 : (PyData.list ds).showable = true) (h2 : (PyData.list ds).hasDict = false) (h3 : (PyData.list ds).depth ≤ 64) (h4 : (PyData.list ds).shown.length ≤ sizeLine) : RAd K (rReprN K) [.list ds] (.str (PyData.list ds).shown) := fun Z H vs al h Q q => by
  cases h with
  | cons a b =>
    cases b
    obtain ⟨p, xs, rfl, _, _⟩ := a.list
    exact .inr ⟨p, _, rfl, hid_dp a h2, h1, h2, h3, h4, q _ H (Same.refl _) (.str _)⟩
end
theorem textFrom_le' {b : Nat} : ∀ (ts : List Str) (k : Nat) (acc : Str), (∀ t ∈ ts, t.length ≤ b) → (textFrom k acc ts).length ≤ acc.length + (b + 2) * ts.length
  | [], k, acc, _ => Nat.le_add_right _ _
  | t :: r, k, acc, h => by
    have := textFrom_le' r (k + 1) (acc ++ (if k > 0 then ", " else "" : String) ++ t) fun x hx => h x (List.mem_cons_of_mem _ hx)
    have h1 := h t List.mem_cons_self
    have e : (", " : Str).length = 2 := rfl
    rw [List.length_cons, Nat.mul_succ]
    have e0 : ("" : Str).length = 0 := rfl
    have e2 : (Str.ofString (if k > 0 then ", " else "")).length ≤ 2 := by
      split
      · exact Nat.le_of_eq e
      · exact Nat.zero_le _
    rw [PySem.Str.length_append, PySem.Str.length_append] at this
    refine Nat.le_trans this ?_
    have e3 : (b + 2) * r.length + (b + 2) = (b + 2) * r.length + b + 2 := rfl
    omega
theorem ok_shown : ∀ n : Nat, n < 100 → (PyData.int (n : Int)).showable = true ∧ (PyData.shown (.int (n : Int))).length ≤ 12 := by decide +kernel
theorem ints_sub {out : List PyData} {zs : List Int} (h : ∀ x ∈ out, x ∈ zs.map PyData.int) : ∃ vs : List Int, out = vs.map .int ∧ vs.length = out.length ∧ ∀ v ∈ vs, v ∈ zs := by
  induction out with
  | nil => exact ⟨[], rfl, rfl, fun v hv => by simp at hv⟩
  | cons x r ih =>
    obtain ⟨vs, h1, h2, h3⟩ := ih fun y hy => h y (List.mem_cons_of_mem _ hy)
    obtain ⟨z, hz, e⟩ := List.mem_map.mp (h x List.mem_cons_self)
    refine ⟨z :: vs, by rw [List.map_cons, e, ← h1], by rw [List.length_cons, List.length_cons, h2], fun v hv => ?_⟩
    rcases List.mem_cons.mp hv with rfl | hv
    · exact hz
    · exact h3 v hv
/-- lists of small ints may be shown -/
theorem ints_fine {n : Nat} {zs : List Int} (hn : n ≤ 100) (hz : ∀ z ∈ zs, OkV n z) (hl : zs.length ≤ 1000) : (PyData.list (zs.map .int)).showable = true ∧ (PyData.list (zs.map .int)).hasDict = false ∧ (PyData.list (zs.map .int)).depth ≤ 64 ∧ (PyData.list (zs.map .int)).shown.length ≤ sizeLine := by
  have big : 20000 ≤ sizeLine := by decide
  obtain ⟨s1, _, s3⟩ := ints_shaped zs
  have all : ∀ d ∈ zs.map PyData.int, d.showable = true ∧ d.shown.length ≤ 12 := fun d hd => by
    obtain ⟨z, hz', rfl⟩ := List.mem_map.mp hd
    have o := hz z hz'
    obtain ⟨k, rfl⟩ : ∃ k : Nat, z = (k : Int) := ⟨z.toNat, by have := o.1; omega⟩
    exact ok_shown k (by have := o.2; omega)
  refine ⟨?_, s1, ?_, ?_⟩
  · show PyData.showableAll (zs.map .int) = true
    generalize zs.map PyData.int = xs at all
    clear s1 s3 hz hl
    induction xs with
    | nil => rfl
    | cons x r ih =>
      show (_ && _) = true
      rw [(all x List.mem_cons_self).1, ih fun d hd => all d (List.mem_cons_of_mem _ hd)]
      rfl
  · show PyData.depthAll (zs.map .int) + 1 ≤ 64
    omega
  · show (listText (PyData.shownAll (zs.map .int))).length ≤ _
    unfold listText
    rw [PySem.Str.length_append, shownAll_eq_map]
    have := textFrom_le' (b := 12) ((zs.map PyData.int).map PyData.shown) 0 "[" fun t ht => by
      obtain ⟨d, hd, rfl⟩ := List.mem_map.mp ht
      exact (all d hd).2
    rw [List.length_map, List.length_map] at this
    have e1 : ("[" : Str).length = 1 := rfl
    have e2 : ("]" : Str).length = 1 := rfl
    rw [e2]
    rw [e1] at this
    omega
end Fd

set_option maxHeartbeats 1000000
/-! two things of one's own in a list, and other names of theirs; dicts with tuple keys -/
namespace Fd
open PySem PySem.Spec PyProof.Rows L2 Fp LamX
/-! ### dicts whose keys are tuples, whose values are ints -/
abbrev EsT := List (List Key × Int)
def dtV (es : EsT) : List (List Key × V) := es.map fun e => (e.1, V.int e.2)
def lkT : EsT → List Key → Option Int
  | [], _ => none
  | e :: r, k => if e.1 = k then some e.2 else lkT r k
def puT (es : EsT) (k : List Key) (z : Int) : EsT := if (es.any fun e => decide (e.1 = k)) = true then es.map (fun e => if e.1 = k then (e.1, z) else e) else es ++ [(k, z)]
theorem valV_dt (k : List Key) : ∀ es : EsT, valV (dtV es) k = (lkT es k).map V.int
  | [] => rfl
  | e :: r => by
    show valV ((e.1, V.int e.2) :: dtV r) k = _
    unfold lkT
    by_cases h : e.1 = k
    · rw [valV_pos h, if_pos h]; rfl
    · rw [valV_neg h, if_neg h, valV_dt k r]
theorem putK_dt (es : EsT) (k : List Key) (z : Int) : putK (dtV es) k (.int z) = dtV (puT es k z) := by
  have a : ((dtV es).any fun kv => decide (kv.1 = k)) = (es.any fun e => decide (e.1 = k)) := by
    unfold dtV
    rw [List.any_map]
    rfl
  unfold putK puT
  rw [a]
  split
  · unfold dtV
    rw [List.map_map, List.map_map]
    refine List.map_congr_left fun e _ => ?_
    show (if e.1 = k then (e.1, V.int z) else (e.1, V.int e.2)) = ((if e.1 = k then (e.1, z) else e).1, V.int (if e.1 = k then (e.1, z) else e).2)
    split <;> rfl
  · unfold dtV
    rw [List.map_append]
    rfl
theorem lkT_put (es : EsT) (k j : List Key) (z : Int) : lkT (puT es k z) j = if j = k then some z else lkT es j := by
  have h := valV_put (dtV es) k j (.int z)
  rw [putK_dt, valV_dt, valV_dt] at h
  by_cases e : j = k
  · rw [if_pos e] at h ⊢
    cases q : lkT (puT es k z) j with
    | none => rw [q] at h; cases h
    | some y => rw [q] at h; injection h with h; injection h with h; rw [h]
  · rw [if_neg e] at h ⊢
    cases q : lkT (puT es k z) j <;> cases q2 : lkT es j <;> rw [q, q2] at h
    · cases h
    · cases h
    · injection h with h; injection h with h; rw [h]
theorem puT_len (es : EsT) (k : List Key) (z : Int) : (puT es k z).length ≤ es.length + 1 := by
  unfold puT
  split
  · rw [List.length_map]; omega
  · rw [List.length_append]; exact Nat.le_refl _
def key2 (a b : Int) : List Key := [.inl a, .inl b]
theorem key2_inj {a b c d : Int} : key2 a b = key2 c d ↔ a = c ∧ b = d := by
  unfold key2
  simp
/-! ### two things in a list -/
section
variable {K : PySem.W.Frag} {lv l1 st : Bool} {W : Wd} {δ δ1 δ2 : List SV} {t n m : Nat} {a b u : TS} {R S : Out → Nat → Prop} {te ta tb tx ty ts : TE} {tr : TA} {d : PyData} {ds : List PyData} {i j l : Nat} {C p : Addr} {c : Addr × List NdefX.NTab} {kvs kvs' : List (PyData × PyData)}
  {RD R' : PyData → Prop} {FD : Addr → List (Str × PyData) → Prop} {tl : XK → TE} {L : List (Addr × List Str × Str)} {q : Bool → Addr} {x : Bool → OV} {k : Bool} {dx A : Addr} {rs : List Addr} {E : List (List Int)} {es : EsT}
theorem two_at {Hh H : Hp} (h : OvAt K Hh H p (.two q x)) (k : Bool) : OvAt K Hh H (q k) (x k) := by
  cases k
  · exact h.2.1
  · exact h.2.2
theorem two_adr (k : Bool) {o : Addr} (h : o ∈ (x k).adrs (q k)) : o ∈ OV.adrs p (.two q x) := by
  cases k
  · exact List.mem_cons_of_mem _ (List.mem_append_left _ h)
  · exact List.mem_cons_of_mem _ (List.mem_append_right _ h)
/-- a name that holds one of the two tables -/
theorem ev_alT (hi : δ[i]? = some (.v (.ref (q k)))) (hj : δ[j]? = some (.o p (.two q x))) (hx : x k = .tab C dx A rs E) : Ev K false δ (tVar i) (tbD C E) := fun Z H σ al r Q q' => by
  have h1 := r.ok i _ hi
  obtain ⟨_, h2⟩ := r.ok j _ hj
  have h3 := two_at h2 k
  rw [hx] at h3
  refine ⟨_, h1, q' _ H (Same.refl _) ?_⟩
  exact dv_tab (OvAt.flat h3 rfl) fun o ho => r.off o (own_in hj (two_adr k (by rw [hx]; exact ho)))
theorem ev_twoT {z : Int} (hj : δ[j]? = some (.o p (.two q x))) (hx : x k = .tab C dx A rs E) (hz : z = if k then 1 else 0) : Ev K false δ (tOp (rIxL K) (tVar j) (tC (.int z))) (tbD C E) := fun Z H σ al r Q q' => by
  obtain ⟨h1, h2⟩ := r.ok j _ hj
  have h3 := two_at h2 k
  rw [hx] at h3
  refine ⟨_, h1, _, _, _, .ref (q k), rfl, rfl, .inl (.inl h2.1), ?_, q' _ H (Same.refl _) ?_⟩
  · subst hz
    cases k
    · exact atI_nat (j := 0) rfl
    · exact atI_nat (j := 1) rfl
  · exact dv_tab (OvAt.flat h3 rfl) fun o ho => r.off o (own_in hj (two_adr k (by rw [hx]; exact ho)))
/-- .. d.get((a, b), z) of one of the two dicts -/
theorem ev_getA {y z v : Int} (hi : δ[i]? = some (.v (.ref (q k)))) (hj : δ[j]? = some (.o p (.two q x))) (hx : x k = .dt es) (ha : Ev K lv δ tx (.int y)) (hb : Ev K lv δ ty (.int v)) :
    Ev K l1 δ (tDGet2 (tVar i) (tTup (tCons tx (tCons ty tNil))) (tC (.int z))) (.int ((lkT es (key2 y v)).getD z)) := fun Z H σ al r Q q' => by
  have h1 := r.ok i _ hi
  obtain ⟨_, h2⟩ := r.ok j _ hj
  have h3 := two_at h2 k
  rw [hx] at h3
  have h3 : H (q k) = some (.dT (dtV es)) := h3
  refine ⟨_, h1, q k, rfl, .inr ⟨_, .inl h3⟩, ha Z H σ al r _ fun w1 H1 e1 hv => hb Z H1 σ (al.same e1) (r.same e1) _ fun w2 H2 e2 hw => ⟨by show 2 ≤ sizeLine; decide, fun tp htp => ?_⟩⟩
  cases hv
  cases hw
  have e3 := (e1.trans e2).trans (same_new (o := .tup ((key2 y v).map L2.kV)) htp)
  refine ⟨_, DGet.t (k := key2 y v) (e3 _ _ h3) upd_same, ?_⟩
  rw [valV_dt, show ((lkT es (key2 y v)).map V.int).getD (.int z) = .int ((lkT es (key2 y v)).getD z) by cases lkT es (key2 y v) <;> rfl]
  exact q' _ _ e3 (.int _)
/-- a, b, c = ts[k], ds[k], ns[k] -/
theorem sw_pick3 {jt jl jk a' b' c' : Nat} {pT pL : Addr} {qT qL : Bool → Addr} {xT xL : Bool → OV} {d : PyData} (hT : δ[jt]? = some (.o pT (.two qT xT))) (hL : δ[jl]? = some (.o pL (.two qL xL))) (hk : δ[jk]? = some (.d (.int (if k then 1 else 0)))) (hs : Ev K true δ ts d) (hd : flatD d = true)
    (qq : R (.nx (((δ.set a' (.v (.ref (qT k)))).set b' (.v (.ref (qL k)))).set c' (.d d))) t) :
    Sw K W δ t (tAsg (tTup (tCons (tOp (rIxL K) (tVar jt) (tVar jk)) (tCons (tOp (rIxL K) (tVar jl) (tVar jk)) (tCons ts tNil)))) (gTup K 3 (gCons (gName a') (gCons (gName b') (gCons (gName c') gNil))))) R := fun Z H σ D mz al r iw h1 h2 h3 h4 h5 => by
  obtain ⟨sT, oT⟩ := r.ok jt _ hT
  obtain ⟨sL, oL⟩ := r.ok jl _ hL
  obtain ⟨v, sK, hv⟩ := r.ok jk _ hk
  cases hv
  have atk : ∀ {y0 y1 : V}, atI [y0, y1] (if k then 1 else 0) = some (if k then y1 else y0) := fun {y0 y1} => by
    cases k
    · exact atI_nat (j := 0) rfl
    · exact atI_nat (j := 1) rfl
  have eT : (if k then V.ref (qT true) else V.ref (qT false)) = .ref (qT k) := by cases k <;> rfl
  have eL : (if k then V.ref (qL true) else V.ref (qL false)) = .ref (qL k) := by cases k <;> rfl
  refine ⟨_, sT, _, sK, _, _, _, .ref (qT k), rfl, rfl, .inl (.inl oT.1), by rw [← eT]; exact atk, _, sL, _, sK, _, _, _, .ref (qL k), rfl, rfl, .inl (.inl oL.1), by rw [← eL]; exact atk, hs Z H σ al r _ fun v H1 e1 hv => ⟨by show 3 ≤ sizeLine; decide, fun tp htp => ⟨tp, _, rfl, .inl (.inl upd_same), rfl, _, _, rfl, _, _, rfl, _, _, rfl, rfl, ?_⟩⟩⟩
  have e2 := e1.trans (same_new (o := .tup [.ref (qT k), .ref (qL k), v]) htp)
  refine h1 _ t _ _ qq (Aft.of (Frm.of e2) fun z hz => .inl (own_put rfl z (own_put rfl z (own_put rfl z hz)))) ?_ (iw.same e2)
  exact ((((r.same e2).put (s := .v (.ref (qT k))) rfl rfl).put (s := .v (.ref (qL k))) rfl rfl)).putD (hv.flat hd)
/-! ### one of the two is changed -/
def updX (x : Bool → OV) (k : Bool) (y : OV) : Bool → OV := fun m => if m = k then y else x m
theorem updX_same {y : OV} : updX x k y k = y := by unfold updX; rw [if_pos rfl]
theorem updX_ne {k' : Bool} {y : OV} (h : k' ≠ k) : updX x k y k' = x k' := by unfold updX; rw [if_neg h]
theorem two_adrs {y : OV} (ea : y.adrs (q k) = (x k).adrs (q k)) : OV.adrs p (.two q (updX x k y)) = OV.adrs p (.two q x) := by
  cases k
  · show p :: (y.adrs (q false) ++ (x true).adrs (q true)) = p :: ((x false).adrs (q false) ++ (x true).adrs (q true))
    rw [ea]
  · show p :: ((x false).adrs (q false) ++ y.adrs (q true)) = p :: ((x false).adrs (q false) ++ (x true).adrs (q true))
    rw [ea]
theorem two_apart (nd : (OV.adrs p (.two q x)).Nodup) {k' : Bool} (hk : k' ≠ k) : ∀ o ∈ (x k').adrs (q k'), o ∉ (x k).adrs (q k) := fun o ho hn => by
  have nd : (p :: ((x false).adrs (q false) ++ (x true).adrs (q true))).Nodup := nd
  obtain ⟨_, n2⟩ := List.nodup_cons.mp nd
  obtain ⟨_, _, n3⟩ := List.nodup_append.mp n2
  cases k <;> cases k'
  · exact hk rfl
  · exact n3 o hn o ho rfl
  · exact n3 o ho o hn rfl
  · exact hk rfl
theorem two_top (nd : (OV.adrs p (.two q x)).Nodup) : ∀ o ∈ (x k).adrs (q k), o ≠ p := fun o ho e => by
  have nd : (p :: ((x false).adrs (q false) ++ (x true).adrs (q true))).Nodup := nd
  obtain ⟨n1, _⟩ := List.nodup_cons.mp nd
  subst e
  cases k
  · exact n1 (List.mem_append_left _ ho)
  · exact n1 (List.mem_append_right _ ho)
theorem two_chg {Hh Hh' H H' : Hp} {y : OV} (h : OvAt K Hh H p (.two q x)) (nd : (OV.adrs p (.two q x)).Nodup) (s : Same Hh Hh') (e : ∀ o u, H o = some u → o ∉ (x k).adrs (q k) → H' o = some u) (hy : OvAt K Hh' H' (q k) y) : OvAt K Hh' H' p (.two q (updX x k y)) := by
  have other : ∀ k', k' ≠ k → OvAt K Hh' H' (q k') (updX x k y k') := fun k' hk => by
    rw [updX_ne hk]
    exact (two_at h k').mono s fun o u ho hu => e o u hu (two_apart nd hk o ho)
  have own' : OvAt K Hh' H' (q k) (updX x k y k) := by rw [updX_same]; exact hy
  refine ⟨e _ _ h.1 fun hm => two_top nd _ hm rfl, ?_, ?_⟩
  · cases k
    · exact own'
    · exact other false (by decide)
  · cases k
    · exact other true (by decide)
    · exact own'
/-- the whole step -/
theorem two_step {Z : Zs} {H H1 H2 : Hp} {σ : L2.St} {y : OV} (mz : Hd W Z) (al : Al Z H) (r : Rel K Z H σ δ) (f : Frm (Mw W) H H1) (hj : δ[j]? = some (.o p (.two q x))) (ea : y.adrs (q k) = (x k).adrs (q k)) (e : ∀ o u, H1 o = some u → o ∉ (x k).adrs (q k) → H2 o = some u) (el : ∀ o, H1 o ≠ none → H2 o ≠ none)
    (hy : ∀ Hh, OvAt K Hh H2 (q k) y) : Aft W δ ((fgt δ).set j (.o p (.two q (updX x k y)))) H H2 ∧ Rel K Z H2 σ ((fgt δ).set j (.o p (.two q (updX x k y)))) := by
  have r1 := r.frm f mz.m
  have nd := own_adr r1.nd hj
  have nd : (OV.adrs p (.two q x)).Nodup := nd
  have ea2 := two_adrs (p := p) (x := x) (y := y) ea
  have e2 : ∀ o u, H1 o = some u → o ∉ OV.adrs p (.two q x) → H2 o = some u := fun o u hu hn => e o u hu fun hm => hn (two_adr k hm)
  refine ⟨Aft.chg f hj ea2 e2 el, r1.chg hj ea2 e2 ?_⟩
  obtain ⟨_, h2⟩ := r1.ok j _ hj
  exact two_chg h2 nd (hid_sub fun o u hu hz => ⟨e2 o u hu fun hm => (zo_f.mp hz).2 (own_in hj hm), hz⟩) e (hy _)
/-- d[a, b] = z -/
theorem sw_dputA {y v z : Int} (hi : δ[i]? = some (.v (.ref (q k)))) (hj : δ[j]? = some (.o p (.two q x))) (hx : x k = .dt es) (hl : es.length < 100000) (hz : Ev K lv δ te (.int z)) (ha : Ev K lv δ tx (.int y)) (hb : Ev K lv δ ty (.int v))
    (qq : R (.nx ((fgt δ).set j (.o p (.two q (updX x k (.dt (puT es (key2 y v) z))))))) t) : Sw K W δ t (sDPut (tVar i) (tTup (tCons tx (tCons ty tNil))) te) R := fun Z H σ D mz al r iw h1 h2 h3 h4 h5 => by
  refine hz Z H σ al r _ fun w0 H0 e0 hw0 => ⟨_, (r.same e0).ok i _ hi, ha Z H0 σ (al.same e0) (r.same e0) _ fun w1 H1 e1 hv => hb Z H1 σ (al.same (e0.trans e1)) (r.same (e0.trans e1)) _ fun w2 H2 e2 hw => ⟨by show 2 ≤ sizeLine; decide, fun tp htp => ?_⟩⟩
  cases hw0
  cases hv
  cases hw
  have e3 := (((e0.trans e1).trans e2)).trans (same_new (o := .tup ((key2 y v).map L2.kV)) htp)
  have r3 := r.same e3
  obtain ⟨_, o3⟩ := r3.ok j _ hj
  have o4 := two_at o3 k
  rw [hx] at o4
  have o4 : upd H2 tp (.tup ((key2 y v).map L2.kV)) (q k) = some (.dT (dtV es)) := o4
  refine ⟨q k, _, rfl, DPut.t (kvs := dtV es) (k := key2 y v) o4 upd_same (by unfold dtV; rw [List.length_map]; exact Nat.lt_of_lt_of_le hl (by decide)), ?_⟩
  rw [putK_dt]
  have zq : Z (q k) = false := r3.off _ (own_in hj (two_adr k (OV.here _ _)))
  obtain ⟨f, r4⟩ := two_step (k := k) (y := .dt (puT es (key2 y v) z)) (H2 := upd (upd H2 tp (.tup ((key2 y v).map L2.kV))) (q k) (.dT (dtV (puT es (key2 y v) z)))) mz al r (Frm.of e3) hj (by rw [hx]; rfl) (fun o u hu hn => by rw [upd_ne (fun w => hn (by rw [w]; exact OV.here _ _))]; exact hu) (fun o hn => upd_al o hn) (fun Hh => upd_same)
  exact h1 _ t _ _ qq f r4 ((iw.same e3).wr mz zq o4)
end
end Fd

set_option maxHeartbeats 1000000
/-! x(e, ..) where the name x holds an instance whose class has an own `__call__` -/
namespace Fp
open PySem PySem.Spec PyProof.Rows L2
theorem cw_inst {M : Model} {A : Around} {E : Value → Shared → Prop} {s : Shared} {y C : Addr} {pos : Pos} {parts : List (Bool × Sem Value)} {Q : Value → Shared → Prop} (hp : parts.any (·.1) = false)
    (h : wpAny M A (evalArgs (.ref y) true parts []) (fun b z => (∃ ob od, ob.data = .plain ∧ PySem.W.InstAt z.heap y ob C od) ∧ wpAny M A (call (.ref y) ([] ++ b.pos) b.kw) Q E z) E s) : wpAny M A (callWith pos (.ref y) [] parts []) Q E s := by
  unfold callWith
  refine wpAny_bind (wpAny_holding (wpAny_mono h (fun b z hz => ?_) fun _ _ r => r))
  refine wpAny_bind (wpAny_standAt ?_)
  obtain ⟨⟨ob, od, hob, hI⟩, hc⟩ := hz
  have hk := PySem.W.kco_keeper (M := M) hI hob
  simp only [hp, List.any_nil, Bool.or_false]
  refine wpAny_bind (hk.here ?_)
  refine wpAny_bind (wpAny_mono (wpAny_operateT hc) (fun v s3 h3 => ?_) fun _ _ r => r)
  exact wpAny_bind (wpAny_holding (wpAny_point (wpAny_pure h3)))
def Ca (P : Program) (w : World) (K : PySem.W.Frag) (mg : Str → Option Value) (base : Heap) (k : Nat) (C : Addr) (ps : List Str) (sp : Sp) : Prop :=
  ∃ g fd, Meth K C "__call__" g ∧ PySem.W.fnIn K g = true ∧ Binds K fd ps [] ∧ FnOk P w K mg base (L2.CX P w) k g fd ps sp
def tCallI (C : Addr) (i : Nat) (sp : Sp) (E : XK) (t : TA) : TE := fun σ H Q => ∃ o dx fs, σ[i]? = some (some (.ref o)) ∧ H o = some (.ins C dx fs) ∧ t σ H fun vs H1 => (∃ dx' fs', H1 o = some (.ins C dx' fs')) ∧ sp (.ref o :: vs) H1 Q E
theorem pe_callI {X : Cx} {k i : Nat} {C : Addr} {ps : List Str} {sp : Sp} {E : XK} {x : Str} {p pos : Pos} {e : Expr} {es : List Expr} {t : TA} (M : Ca X.prog X.w X.K X.mg X.base k C ps sp) (hr : Room (k + 1) X.A) (hx : Passes (L2.CX X.prog X.w) X E) (hN : X.N[i]? = some x) (hv : Vis X.env.scope x) (ha : PA X (e :: es) t)
    (hdb : (x == ("__debug__" : Str)) = false := by decide) (hcd : (x == ("__classdict__" : Str)) = false := by decide)
    (he : starEach (e :: es) X.env = (false, eval e X.env) :: starEach es X.env := by rfl) (hpl : (backTo pos (starEach es X.env)).any (·.1) = false := by rfl) :
    PE X (.Call (.Name x p) (e :: es) [] pos) (tCallI C i sp E t) := by
  refine ⟨fun pins s σ H Q I h => ?_⟩
  obtain ⟨o, dx, fs, hs, hi, ht⟩ := h
  refine wpAny_Call_Name_kw (thn ((pe_var (pos := p) hN hv hdb hcd).run pins s σ H (fun v H1 => v = .ref o ∧ H1 = H) I ⟨.ref o, hs, rfl, rfl⟩) fun u s1 ⟨v, H1, I1, r1, q1⟩ => ?_)
  obtain ⟨rfl, rfl⟩ := q1
  cases r1
  obtain ⟨g, fd, h1, hfn, h2, h3⟩ := M
  have F := h3.raw (dvs := []) h2 .nil
  rw [he]
  refine cw_inst (C := C) (by show (false || (backTo pos (starEach es X.env)).any (·.1)) = false; rw [hpl]; rfl) (Calls.evalArgs_plain ?_)
  have hrun := ha.run pos pins s1 σ _ _ I1 ht
  rw [he] at hrun
  refine thn hrun fun us s2 ⟨vs, H2, I2, r, ⟨dx', fs', hi2⟩, q⟩ => ?_
  obtain ⟨od2, J2⟩ := inst_of I2 hi2
  refine ⟨⟨_, _, rfl, J2⟩, ?_⟩
  refine wpAny_call (PySem.W.kco_code I2.kIn J2 rfl h1.at_ h1.fn hfn ?_)
  have q2 : sp (.ref o :: vs ++ []) H2 Q E := by rw [List.append_nil]; exact q
  exact SlX.run_at (us := .ref o :: us) (ws := .ref o :: vs) F (hr.mono (Nat.le_succ k)) I2.env0 hx I2 (.cons rfl r) q2
end Fp

set_option maxHeartbeats 1000000
/-! o[e], o(e), str of own things that may raise; new lists of drawn things; what a try changes; two new tables -/
namespace Fd
open PySem PySem.Spec PyProof.Rows L2 Fp LamX
section
variable {K : PySem.W.Frag} {lv l1 st : Bool} {W : Wd} {δ δ1 δ2 : List SV} {t n m : Nat} {a b u : TS} {R S : Out → Nat → Prop} {te ta tb tx ty ts : TE} {tr : TA} {d y : PyData} {ds : List PyData} {i j l : Nat} {C p : Addr} {c : Addr × List NdefX.NTab} {kvs kvs' : List (PyData × PyData)}
  {RD R' P : PyData → Prop} {FD F0 : Addr → List (Str × PyData) → Prop} {tl : XK → TE} {L : List (Addr × List Str × Str)} {q : Bool → Addr} {x : Bool → OV} {k : Bool} {dx A : Addr} {rs : List Addr} {E : List (List Int)} {es : EsT}
  {A' : List PyData → Prop} {F : List PyData → PyData → Prop} {G : List PyData → Addr → List (Str × PyData) → Prop}
/-- o[e] by an own `__getitem__` that may raise -/
theorem evr_ixOwn (ha : Ev K lv δ ta (iD C kvs)) (hb : Ev K lv δ tb y) (hA : A' [iD C kvs, y]) (hF : ∀ d, F [iD C kvs, y] d → RD d) (hG : ∀ CE fs, G [iD C kvs, y] CE fs → FD CE fs) : EvR K lv δ (fun E => tOp (rIxOwn C (spVR K A' F G) E) ta tb) RD FD := fun Z H σ al r E Q q qe => ha Z H σ al r _ fun v H1 e1 hv => hb Z H1 σ (al.same e1) (r.same e1) _ fun w H2 e2 hw => by
  have hv := hv.same (same_hid e2)
  obtain ⟨o, dx, fs, rfl, ho, _⟩ := inst_hid hv
  have e12 := e1.trans e2
  exact ⟨o, dx, fs, rfl, ho, Zl lv Z δ, _, (r.all al lv).same e12, .cons hv (.cons hw .nil), hA, fun v d H3 e3 hf hv3 => q v d H3 (e12.trans e3) (hF d hf) hv3, fun CE fs us dd H3 hg hn e3 hd hu => qe CE fs us dd H3 (hG CE fs hg) ((Frm.of (M := fun _ => false) e12).none hn) (e12.trans e3) hd hu⟩
/-- .. and doesn't, here -/
theorem ev_ixOwnR {E : XK} (ha : Ev K lv δ ta (iD C kvs)) (hb : Ev K lv δ tb y) (hA : A' [iD C kvs, y]) (hF : ∀ e, F [iD C kvs, y] e → e = d) (hG : ∀ CE fs, ¬ G [iD C kvs, y] CE fs) : Ev K lv δ (tOp (rIxOwn C (spVR K A' F G) E) ta tb) d := fun Z H σ al r Q q =>
  evr_ixOwn (RD := fun e => e = d) (FD := fun _ _ => False) ha hb hA hF (fun CE fs hg => hG CE fs hg) Z H σ al r E Q (fun v e H' hs he hv => q v H' hs (he ▸ hv)) fun _ _ _ _ _ h => h.elim
/-- o(e, ..) by an own `__call__` that may raise -/
theorem evr_callI (ha : Ev K lv δ (tVar i) (iD C kvs)) (ht : EvA K lv δ tr ds) (hA : A' (iD C kvs :: ds)) (hF : ∀ d, F (iD C kvs :: ds) d → RD d) (hG : ∀ CE fs, G (iD C kvs :: ds) CE fs → FD CE fs) : EvR K lv δ (fun E => tCallI C i (spVR K A' F G) E tr) RD FD := fun Z H σ al r E Q q qe => by
  obtain ⟨v, hv1, hv⟩ := ha Z H σ al r (fun v H1 => H1 = H → Dv K (hid (Zl lv Z δ) H) v (iD C kvs)) (fun v H1 e1 hv h => h ▸ hv)
  obtain ⟨o, dx, fs, rfl, ho, _⟩ := inst_hid (hv rfl)
  exact ⟨o, dx, fs, hv1, ho, ht Z H σ al r _ fun vs H2 e2 hvs => ⟨⟨dx, fs, e2 _ _ ho⟩, Zl lv Z δ, _, (r.all al lv).same e2, .cons ((hv rfl).same (same_hid e2)) hvs, hA, fun v d H3 e3 hf hv3 => q v d H3 (e2.trans e3) (hF d hf) hv3, fun CE fs us dd H3 hg hn e3 hd hu => qe CE fs us dd H3 (hG CE fs hg) ((Frm.of (M := fun _ => false) e2).none hn) (e2.trans e3) hd hu⟩⟩
/-- return of a reading that may raise -/
theorem swe_retR {E : XK} (h : EvR K true δ tl RD F0) (hq : ∀ d, RD d → R (.rt d) t) : SwE K W E F0 δ t (tRet (tl E)) R := fun Z H σ D mz al r iw k1 k2 k3 k4 k5 k6 => h Z H σ al r E _ (fun v d H' e rd hv => k2 d t v H' (hq d rd) (Frm.of e) (iw.same e) (hv.same (hid_sub fun o u h z => ⟨h, zl_out z⟩))) (fun CE fs vs dd H' hF hn e hd hu => k6 CE fs vs dd H' hF hn (Frm.of e) hd (hu.same (hid_sub fun o u h z => ⟨h, zl_out z⟩)))
/-- x(lambda: ..) whose results are flat -/
theorem ex_triedF (h : EvR K lv δ tl RD FD) (hR : ∀ d, RD d → flatD d = true ∧ R' d) (hF : ∀ CE fs, FD CE fs → ∃ f z nm, fs = [(f, PyData.int z)] ∧ (CE, [f], nm) ∈ L ∧ R' (.tuple [.str nm, .int z, .bool true])) :
    Ex K l1 (some (p, c)) δ (tLamB c.2 (TTd L) tl) 0 R' := fun Z H σ t mz al r iw ht Q q => by
  refine ⟨iw.2, fun H1 e T1 => ?_⟩
  have f := ext_frm (p := p) e
  have i1 := ext_iw iw e T1
  have r1 := r.frm f mz.m
  have al1 := f.alz al
  refine h Z H1 σ al1 r1 _ _ (fun v d H2 e2 rd hv => ⟨v, rfl, q v d H2 (f.trans (Frm.of e2)) (i1.same e2) (hR d rd).2 (hv.flat (hR d rd).1)⟩) fun CE fs vs dd H2 fd hn e2 hd hv => ?_
  obtain ⟨fn, z, nm, rfl, hL, hR2⟩ := hF CE fs fd
  obtain ⟨v, rfl, hv7⟩ := hv.one
  obtain rfl : v = .int z := Dv.num hv7
  refine ⟨CE, [fn], nm, [.int z], dd, hL, rfl, rfl, rfl, hd, fun p' hp => ?_⟩
  have e3 : Same H2 (upd H2 p' (.tup (.str nm :: ([V.int z].reverse ++ [.bl true])))) := same_new hp
  exact q _ _ _ (f.trans (Frm.of (e2.trans e3))) (i1.same (e2.trans e3)) hR2 (.tup (.inl (.inl (hid_in upd_same (((r1.all al1 l1).same e2).off hp)))) (.cons (.str _) (.cons (.int _) (.cons (.bl true) .nil))))
/-- x = [e] -/
theorem sw_newX (h : Ex K true W δ te n P) (hb : t + n ≤ 1000000000) (hi : i < δ.length) (qq : ∀ d, P d → ∀ p, R (.nx (δ.set i (.o p (.lst [d])))) (t + n)) : Sw K W δ t (tAsg (tLst (tCons te tNil)) (gName i)) R := fun Z H σ D mz al r iw h1 h2 h3 h4 h5 =>
  h Z H σ t mz al r iw hb _ fun v d H1 f i1 pd hv => ⟨by show 1 ≤ sizeLine; decide, fun o ho => by
    have e2 : Same H1 (upd H1 o (.lst [v])) := same_new ho
    have al1 := f.alz al
    have r1 := r.frm f mz.m
    refine h1 _ (t + n) _ _ (qq d pd o) (Aft.of (f.trans (Frm.of e2)) fun b' hb' => ?_) (r1.mine (x := .lst [d]) al1 e2 (fun o' ho' => by rw [List.mem_singleton.mp ho']; exact ho) (List.nodup_cons.mpr ⟨by simp, List.nodup_nil⟩) (fun Hh s => ⟨[v], upd_same, .cons ?_ .nil⟩) hi) (i1.same e2)
    · rcases own_set δ i b' hb' with w | w
      · rw [List.mem_singleton.mp w]; exact .inr (f.none ho)
      · exact .inl w
    · refine (hv.same (hid_sub fun b' u' hb' z => ⟨?_, z⟩)).same s
      have nb : b' ≠ o := fun w => by rw [w, ho] at hb'; cases hb'
      show (if b' ∈ [o] then none else upd H1 o (.lst [v]) b') = some u'
      rw [if_neg (by simpa using nb), upd_ne nb]
      exact hb'⟩
end
end Fd

set_option maxHeartbeats 1000000
/-! two new tables in a list; != of own things; a step behind what a statement changed -/
namespace Fd
open PySem PySem.Spec PyProof.Rows L2 Fp LamX
section
variable {K : PySem.W.Frag} {lv l1 st : Bool} {W : Wd} {δ δ1 δ2 : List SV} {t : Nat} {n : Bool → Nat} {a b u : TS} {R S : Out → Nat → Prop} {te ta tb tx ty ts : TE} {tr : TA} {d y : PyData} {ds : List PyData} {i j l : Nat} {C p : Addr} {c : Addr × List NdefX.NTab} {kvs kvs' : List (PyData × PyData)}
  {q : Bool → Addr} {x : Bool → OV} {k : Bool} {dx A : Addr} {rs : List Addr} {E : List (List Int)} {es : EsT}
/-- the rest, from where a statement ended -/
theorem Sw.step {Z : Zs} {H H5 : Hp} {σ5 : L2.St} {D : Ends} {t5 : Nat} (h : Sw K W δ1 t5 b R) (mz : Hd W Z) (al : Al Z H) (f : Aft W δ δ1 H H5) (r5 : Rel K Z H5 σ5 δ1) (i5 : Iw W t5 H5)
    (h1 : ∀ δ' t' σ' H', R (.nx δ') t' → Aft W δ δ' H H' → Rel K Z H' σ' δ' → Iw W t' H' → D.nx σ' H') (h2 : ∀ d t' v H', R (.rt d) t' → Frm (Mo W δ) H H' → Iw W t' H' → Dv K (hid Z H') v d → D.rt v H')
    (h3 : ∀ δ' t' σ' H', R (.bk δ') t' → Aft W δ δ' H H' → Rel K Z H' σ' δ' → Iw W t' H' → D.bk σ' H') (h4 : ∀ δ' t' σ' H', R (.ct δ') t' → Aft W δ δ' H H' → Rel K Z H' σ' δ' → Iw W t' H' → D.ct σ' H')
    (h5 : ∀ p x t' H', R (.ro p x) t' → Frm (Mo W δ) H H' → Iw W t' H' → OvNew K Z δ H H' p x → D.rt (.ref p) H') : b D σ5 H5 :=
  h Z H5 σ5 D mz (f.frm.alz al) r5 i5 (fun δ2 t2 σ2 H2 q2 f2 => h1 δ2 t2 σ2 H2 q2 (f.trans f2)) (fun d t2 v H2 q2 f2 => h2 d t2 v H2 q2 (frm_next f f2)) (fun δ2 t2 σ2 H2 q2 f2 => h3 δ2 t2 σ2 H2 q2 (f.trans f2)) (fun δ2 t2 σ2 H2 q2 f2 => h4 δ2 t2 σ2 H2 q2 (f.trans f2)) (fun p x t2 H2 q2 f2 i2 n2 => h5 p x t2 H2 q2 (frm_next f f2) i2 (n2.back f))
/-- o != o' by an own `__eq__` -/
theorem r2_ownNe {F : List PyData → PyData → Prop} {v : Bool} (hF : F [iD C kvs, iD C kvs'] (.bool v)) : R2d K (rOwnNe C (spV K F)) (iD C kvs) (iD C kvs') (.bool (!v)) := fun Z H x y al hx hy Q q => by
  obtain ⟨o, dx, fs, rfl, ho, _⟩ := inst_hid hx
  obtain ⟨o', dy, gs, rfl, ho', _⟩ := inst_hid hy
  refine ⟨o, dx, fs, o', dy, gs, rfl, rfl, ho, ho', Z, _, .bool v, al, .cons hx (.cons hy .nil), hF, fun u H' e hu => ?_⟩
  exact ⟨v, hu.bool, q _ H' e (.bl _)⟩
/-- a new table -/
theorem evn_makeT {E0 : XK} {m : Nat} (h : Ev K lv δ te (.int (m : Nat))) (h1 : 1 ≤ m) (h2 : m ≤ 60) : EvN K δ (tMake C (spTN C) [] E0 (tCons te tNil)) (fun x => ∃ dx A rs, x = .tab C dx A rs (zeroM m)) := fun Z H σ al r Q q =>
  h Z H σ al r _ fun v H1 e1 hv => by
    cases hv
    intro x dx hx hdx ne
    refine ⟨x, dx, m, rfl, upd_same, h1, h2, fun A rs H' e2 hn nd hp hm => ⟨rfl, ?_⟩⟩
    have f1 : ∀ b, b ≠ x → b ≠ dx → upd (upd H1 dx (.own x)) x (.ins C dx []) b = H1 b := fun b n1 n2 => by rw [upd_ne n1, upd_ne n2]
    have e : Same H H' := fun b o hb => by
      have hb := e1 b o hb
      have n1 : b ≠ x := fun w => by rw [w, hx] at hb; cases hb
      have n2 : b ≠ dx := fun w => by rw [w, hdx] at hb; cases hb
      exact e2 b o (by rw [f1 b n1 n2]; exact hb) n1
    have back : ∀ b, H1 b = none → H b = none := fun b hb => (Frm.of (M := fun _ => false) e1).none hb
    have hA : ∀ a ∈ A :: rs, a ≠ x ∧ a ≠ dx ∧ H a = none := fun a ha => by
      have h0 := hn a ha
      have n1 : a ≠ x := fun w => by rw [w, upd_same] at h0; cases h0
      have n2 : a ≠ dx := fun w => by rw [w, upd_ne ne, upd_same] at h0; cases h0
      rw [f1 a n1 n2] at h0
      exact ⟨n1, n2, back a h0⟩
    refine q x (.tab C dx A rs (zeroM m)) H' e ⟨dx, A, rs, rfl⟩ rfl (fun Hh => ⟨by rw [zero_len]; exact hp, hm⟩) (fun a ha => ?_) (List.nodup_cons.mpr ⟨fun w => (hA x w).1 rfl, nd⟩)
    rcases List.mem_cons.mp ha with rfl | ha
    · exact back _ hx
    · exact (hA a ha).2.2
abbrev TbA := Addr × Addr × Addr × List Addr
def tbO (C : Addr) (t : TbA) (m : Nat) : OV := .tab C t.2.1 t.2.2.1 t.2.2.2 (zeroM m)
def tbAll (ts : List TbA) : List Addr := ts.flatMap fun t => t.1 :: t.2.2.1 :: t.2.2.2
def EvTT (K : PySem.W.Frag) (δ : List SV) (te : TE) (C : Addr) (n : Bool → Nat) : Prop := ∀ (Z : Zs) (H : Hp) (σ : L2.St), Al Z H → Rel K Z H σ δ → ∀ Q : VK,
  (∀ p (q dx A : Bool → Addr) (rs : Bool → List Addr) H', Same H H' → (∀ o ∈ OV.adrs p (.two q fun k => .tab C (dx k) (A k) (rs k) (zeroM (n k))), H o = none) → (OV.adrs p (.two q fun k => .tab C (dx k) (A k) (rs k) (zeroM (n k)))).Nodup → (∀ Hh, OvAt K Hh H' p (.two q fun k => .tab C (dx k) (A k) (rs k) (zeroM (n k)))) → Q (.ref p) H') → te σ H Q
theorem evtt_lc {E0 : XK} (hs : Ev K true δ ts (.list [.int (n false : Nat), .int (n true : Nat)])) (h1 : ∀ k, 1 ≤ n k) (h2 : ∀ k, n k ≤ 60) (hu : δ[l]? = some .u) : EvTT K δ (tLc (iList K ts) (gName l) tYes (tMake C (spTN C) [] E0 (tCons (tVar l) tNil)) [l]) C n := fun Z H σ al r Q qq => by
  rw [lc_G]
  have lu : l < δ.length := (List.getElem?_eq_some_iff.mp hu).1
  refine evi_list (st := true) hs Z H σ al r _ fun J H1 e1 jd => ?_
  have al1 := al.same e1
  have r1 := r.same e1
  let ns : List Nat := [n false, n true]
  refine lcg_jd jd (fun D i acc H' => Same H1 H' ∧ H' D = some (.lst acc) ∧ ∃ ts : List TbA, acc = ts.map (fun t => V.ref t.1) ∧ ts.length = i ∧ (∀ (j : Nat) (t : TbA) (m : Nat), ts[j]? = some t → ns[j]? = some m → ∀ Hh, OvAt K Hh H' t.1 (tbO C t m)) ∧ (∀ o ∈ D :: tbAll ts, H1 o = none) ∧ (D :: tbAll ts).Nodup)
    (fun D hD => ⟨same_new hD, upd_same, [], rfl, rfl, fun j t m h _ => by simp at h, fun o ho => by rw [List.mem_singleton.mp ho]; exact hD, List.nodup_cons.mpr ⟨by simp [tbAll], List.nodup_nil⟩⟩) (fun D i acc H' _ _ p => Stb.of p.1) (fun D i x d acc H2 H' hD hd p e2 hx => ?_) (fun D acc H' hD p => ?_)
  · obtain ⟨p1, p2, ts', rfl, p3, p4, p5, p6⟩ := p
    have hns : ∃ m, ns[i]? = some m ∧ d = .int (m : Nat) := by
      match i, hd with
      | 0, hd => cases hd; exact ⟨_, rfl, rfl⟩
      | 1, hd => cases hd; exact ⟨_, rfl, rfl⟩
      | i + 2, hd => cases hd
    obtain ⟨m, hm, rfl⟩ := hns
    have mb : 1 ≤ m ∧ m ≤ 60 := by
      have := List.mem_of_getElem? hm
      simp only [ns, List.mem_cons, List.not_mem_nil, or_false] at this
      rcases this with rfl | rfl
      · exact ⟨h1 _, h2 _⟩
      · exact ⟨h1 _, h2 _⟩
    have hil : i < 2 := (List.getElem?_eq_some_iff.mp hm).1
    have hZ : ∀ b, addZ Z D b = true → Z b = true ∨ H1 b = none := fun b hb => (addZ_t hb).imp id fun w => by rw [w]; exact hD
    have al2 : Al (addZ Z D) H2 := fun b hb => by
      rcases addZ_t hb with w | w
      · exact al1.same p1 b w
      · rw [w, p2]; intro z; cases z
    have r2 : Rel K (addZ Z D) H' (L2.wipe σ [l]) δ := (r1.hide (fun b o h _ => p1.trans e2 b o h) hZ al1).wipe (by simp [List.getD_eq_getElem?_getD, hu, SV.isU])
    have hx2 : Dv K (hid (Zl true (addZ Z D) δ) H') x (.int (m : Nat)) := hx (Zl true (addZ Z D) δ) (zl_add hZ) ((r1.hide (fun b o h _ => p1 b o h) hZ al1).all al2 true)
    refine (tg_name (K := K) (lv := true) (by simp) : Tg K true δ [l] (gName l) (.int (m : Nat)) _) (addZ Z D) H' (L2.wipe σ [l]) x (al2.same e2) r2 hx2 _ fun σ2 r3 w3 => ⟨w3.trans wipe_wipe, ?_⟩
    unfold tYes
    dsimp only
    rw [if_pos rfl]
    refine evn_makeT (lv := true) (ev_var (List.getElem?_set_self lu)) mb.1 mb.2 (addZ Z D) H' σ2 (al2.same e2) r3 _ fun o xo H4 e4 hg hf ho hn nd => ?_
    obtain ⟨dx', A', rs', rfl⟩ := hg
    have p24 : Same H2 H4 := e2.trans e4
    have new2 : ∀ o' ∈ OV.adrs o (.tab C dx' A' rs' (zeroM m)), H2 o' = none := fun o' h => (Frm.of (M := fun _ => false) e2).none (hn o' h)
    have new1 : ∀ o' ∈ OV.adrs o (.tab C dx' A' rs' (zeroM m)), H1 o' = none := fun o' h => (Frm.of (M := fun _ => false) p1).none (new2 o' h)
    have offD : ∀ o' ∈ OV.adrs o (.tab C dx' A' rs' (zeroM m)), o' ≠ D := fun o' h w => by have := new2 o' h; rw [w, p2] at this; cases this
    have old : ∀ o' ∈ tbAll ts', H2 o' ≠ none := fun o' h => by
      obtain ⟨t', ht', h'⟩ := List.mem_flatMap.mp h
      obtain ⟨j, hj⟩ := List.getElem?_of_mem ht'
      have jl : j < i := by rw [← p3]; exact (List.getElem?_eq_some_iff.mp hj).1
      have : ∃ m', ns[j]? = some m' := ⟨ns[j]'(Nat.lt_trans jl hil), List.getElem?_eq_getElem _⟩
      obtain ⟨m', hm'⟩ := this
      exact (p4 j t' m' hj hm' H2).al h'
    have keep : ∀ (j : Nat) (t' : TbA) (m' : Nat), ts'[j]? = some t' → ns[j]? = some m' → ∀ Hh, OvAt K Hh (upd H4 D (.lst (ts'.map (fun t => V.ref t.1) ++ [.ref o]))) t'.1 (tbO C t' m') := fun j t' m' hj hm' Hh => by
      refine (p4 j t' m' hj hm' Hh).mono (Same.refl _) fun o' u' ho' hu' => ?_
      rw [upd_ne]
      · exact p24 _ _ hu'
      · intro w
        have : o' ∈ tbAll ts' := List.mem_flatMap.mpr ⟨t', List.mem_of_getElem? hj, ho'⟩
        exact (List.nodup_cons.mp p6).1 (w ▸ this)
    refine ⟨ts'.map (fun t => V.ref t.1), p24 _ _ p2, by rw [List.length_map, p3]; exact Nat.lt_of_lt_of_le hil (by decide), ts'.map (fun t => V.ref t.1) ++ [.ref o], Same.mut (p1.trans p24) hD, upd_same, ts' ++ [(o, dx', A', rs')], by simp, by rw [List.length_append, p3]; rfl, fun j t' m' hj hm' Hh => ?_, fun o' ho' => ?_, ?_⟩
    · rcases Nat.lt_or_ge j ts'.length with h | h
      · rw [List.getElem?_append_left h] at hj
        exact keep j t' m' hj hm' Hh
      · rw [List.getElem?_append_right h] at hj
        have hk : j = ts'.length := by
          have := (List.getElem?_eq_some_iff.mp hj).1
          simp at this
          omega
        subst hk
        rw [Nat.sub_self] at hj
        cases hj
        rw [p3, hm] at hm'
        cases hm'
        exact (ho Hh).mono (Same.refl _) fun o' u' ho' hu' => by rw [upd_ne (offD o' ho')]; exact hu'
    · have e : tbAll (ts' ++ [(o, dx', A', rs')]) = tbAll ts' ++ OV.adrs o (.tab C dx' A' rs' (zeroM m)) := by unfold tbAll; rw [List.flatMap_append]; simp [OV.adrs]
      rw [e] at ho'
      rcases List.mem_cons.mp ho' with w | w
      · rw [w]; exact hD
      · rcases List.mem_append.mp w with w | w
        · exact p5 o' (List.mem_cons_of_mem _ w)
        · exact new1 o' w
    · have e : tbAll (ts' ++ [(o, dx', A', rs')]) = tbAll ts' ++ OV.adrs o (.tab C dx' A' rs' (zeroM m)) := by unfold tbAll; rw [List.flatMap_append]; simp [OV.adrs]
      rw [e]
      obtain ⟨n1, n2⟩ := List.nodup_cons.mp p6
      refine List.nodup_cons.mpr ⟨fun w => ?_, List.nodup_append.mpr ⟨n2, nd, fun o1 h1' o2 h2' w => ?_⟩⟩
      · rcases List.mem_append.mp w with w | w
        · exact n1 w
        · exact offD D w rfl
      · subst w
        exact old o1 h1' (new2 o1 h2')
  · obtain ⟨p1, p2, ts', rfl, p3, p4, p5, p6⟩ := p
    have p3 : ts'.length = 2 := p3
    match ts', p3 with
    | [t0, t1], _ =>
      have e : D :: tbAll [t0, t1] = OV.adrs D (.two (fun k => if k = true then t1.1 else t0.1) fun k => .tab C (if k = true then t1.2.1 else t0.2.1) (if k = true then t1.2.2.1 else t0.2.2.1) (if k = true then t1.2.2.2 else t0.2.2.2) (zeroM (n k))) := by simp [tbAll, OV.adrs]
      refine qq D (fun k => if k = true then t1.1 else t0.1) (fun k => if k = true then t1.2.1 else t0.2.1) (fun k => if k = true then t1.2.2.1 else t0.2.2.1) (fun k => if k = true then t1.2.2.2 else t0.2.2.2) H' (e1.trans p1) (fun o ho => ?_) (by rw [← e]; exact p6) fun Hh => ⟨p2, p4 0 t0 _ rfl rfl Hh, p4 1 t1 _ rfl rfl Hh⟩
      rw [← e] at ho
      exact (Frm.of (M := fun _ => false) e1).none (p5 o ho)
/-- ts, ds = [T(n) for n in ns], [{}, {}] -/
theorem sw_mk2 (h : EvTT K δ te C n) (hi : i < δ.length) (hj : j < δ.length) (qq : ∀ (pT : Addr) (qT dx A : Bool → Addr) (rs : Bool → List Addr) (pL : Addr) (qL : Bool → Addr), R (.nx ((δ.set i (.o pT (.two qT fun k => .tab C (dx k) (A k) (rs k) (zeroM (n k))))).set j (.o pL (.two qL fun _ => .dt [])))) t) :
    Sw K W δ t (tPar i j (tCons te (tCons (tLst (tCons tDNewT (tCons tDNewT tNil))) tNil))) R := fun Z H σ D mz al r iw k1 k2 k3 k4 k5 => by
  refine h Z H σ al r _ fun p q dx A rs H1 e1 hn nd ho => ?_
  intro d0 hd0 d1 hd1
  refine ⟨by show 2 ≤ sizeLine; decide, fun o ho' => ⟨_, _, rfl, ?_⟩⟩
  have n01 : d0 ≠ d1 := fun w => by rw [← w, upd_same] at hd1; cases hd1
  have e2 : Same H1 (upd (upd (upd H1 d0 (.dT [])) d1 (.dT [])) o (.lst [.ref d0, .ref d1])) := ((same_new hd0).trans (same_new hd1)).trans (same_new ho')
  have e := e1.trans e2
  have ra := r.mine (x := .two q fun k => .tab C (dx k) (A k) (rs k) (zeroM (n k))) al e1 hn nd (fun Hh s => ho Hh) hi
  have hd1' : H1 d1 = none := by rw [upd_ne n01.symm] at hd1; exact hd1
  have o0 : o ≠ d0 := fun w => by rw [w, upd_ne n01, upd_same] at ho'; cases ho'
  have o1 : o ≠ d1 := fun w => by rw [w, upd_same] at ho'; cases ho'
  have ho1 : H1 o = none := by rw [upd_ne o1, upd_ne o0] at ho'; exact ho'
  have nw : ∀ a ∈ OV.adrs o (.two (fun k => if k = true then d1 else d0) fun _ => .dt []), H1 a = none := fun a ha => by
    have ha : a ∈ [o, d0, d1] := ha
    simp only [List.mem_cons, List.not_mem_nil, or_false] at ha
    rcases ha with rfl | rfl | rfl
    · exact ho1
    · exact hd0
    · exact hd1'
  have rb := ra.mine (i := j) (x := .two (fun k => if k = true then d1 else d0) fun _ => .dt []) (al.same e1) e2 nw (by show [o, d0, d1].Nodup; simp [o0, o1, n01]) (fun Hh s => ⟨upd_same, by show upd _ o _ d0 = _; rw [upd_ne o0.symm, upd_ne n01, upd_same]; rfl, by show upd _ o _ d1 = _; rw [upd_ne o1.symm, upd_same]; rfl⟩) (by rw [List.length_set]; exact hj)
  refine k1 _ t _ _ (qq p q dx A rs o _) (Aft.of (Frm.of e) fun z hz => ?_) rb (iw.same e)
  rcases own_set _ j z hz with w | w
  · exact .inr ((Frm.of (M := fun _ => false) e1).none (nw z w))
  · rcases own_set _ i z w with w | w
    · exact .inr (hn z w)
    · exact .inl w
end
end Fd

set_option maxHeartbeats 1000000
/-! a def with captured names that is handed on: to a lambda, by it to a class method, that calls it (texts of ntab.py) -/
namespace Fp
open PySem PySem.Spec PyProof.Rows L2 LamX NdefX ClX
/-- what captured cells hold they hold, while their frame rests -/
theorem cells_un {cl : List (Str × Addr)} {fr : List Str} {ws : List (Option V)} {fs : List Addr} {H H' : Hp} {h h' : Heap} (C : CellsAt cl fr ws h H) (u : Un fs [] H H' h h') : CellsAt cl fr ws h' H' := by
  have kp : ∀ y c, cl.lookup y = some c → ∀ v, h.IsCell c v → h'.IsCell c v := fun y c e v ⟨o, ho, hd⟩ => by
    obtain ⟨sl, q⟩ := u.any ho (C.all y c e).1 (by simp)
    exact ⟨_, q, hd⟩
  refine ⟨C.len, fun y c e => ?_, C.inj, fun i y e => ?_⟩
  · obtain ⟨n, v, z⟩ := C.all y c e
    refine ⟨?_, v, kp y c e v z⟩
    obtain ⟨o, ho, _⟩ := z
    exact u.free c o ho n (by simp)
  · obtain ⟨c, hc, hv⟩ := C.has i y e
    refine ⟨c, hc, fun v ev => ?_⟩
    obtain ⟨u', r, z⟩ := hv v ev
    exact ⟨u', r, kp y c hc _ z⟩
section
variable {X : Cx} {pins : List (Addr × Obj)} {σ : L2.St} {H HZ : Hp} {s s1 : Shared} {cl : List (Str × Addr)} {fr : List Str} {ws : List (Option V)} {js : List Nat}
theorem cells_in (C : CellsAt cl fr ws X.s_0.heap X.H_0) (hex : X.ex = []) (I : Inv X pins σ H s) : CellsAt cl fr ws s.heap H := by
  have u := I.base
  rw [hex] at u
  exact cells_un C u
/-- x(), in the def that got the lambda; told too: what some captured cells hold -/
theorem pe_actC {CXg : CXT} {Eg : XK} {Ng : List Str} {qg : Str} {sg : Scope} {g f c' : Addr} {cdg pm ctv : Value} {params : Arguments} {body : Expr} {scope : Scope} {k i : Nat} {a : Str} {pn : List (Addr × Obj)} {xe : Value → Shared → Prop} {W : WX} {E : XK} {tb : TE} {p1 p2 : Pos}
    (I : Inv X pins σ H s) (cp : Caps X cl fr js) (L : LamS X.env.scope scope) (hf : s.heap.get? f = some (PySem.W.kla_obj "<lambda>" (X.env.qual ++ "<lambda>") params body scope (cloFrom X.env.cells scope.names []) pm c' ctv)) (hfn : H f = none) (hfr : f ∉ frs X.stack)
    (hbind : bindArgs (PySem.W.kla_fn "<lambda>" (X.env.qual ++ "<lambda>") params body scope (cloFrom X.env.cells scope.names []) pm (.ref c') ctv) ⟨[], []⟩ = pure [])
    (tk : Takes ((cxOf CXg X.prog X.w X.K X.mg X.base Ng qg sg g cdg X.A X.stack s H Eg).tr pn xe) W) (hW : ∀ cls d σ' H', E cls d H' → W cls d σ' H') (hr : Room (k + 1) (X.A.deeper (envOfC qg sg s.heap.objs.size g cdg)))
    (hbody : ∀ (A : Around) (outer : List Env) (s : Shared) (H : Hp), Room k (A.deeper (lamEnv X scope s.heap.objs.size f c')) → CellsAt cl fr (js.map (slotAt σ)) s.heap H → PE (lamCx X A outer s H E scope f c') body tb)
    (hN : Ng[i]? = some a) (hv : Vis sg a) (hd : (a == ("__debug__" : Str)) = false := by decide) (hcd : (a == ("__classdict__" : Str)) = false := by decide) :
    PE ((cxOf CXg X.prog X.w X.K X.mg X.base Ng qg sg g cdg X.A X.stack s H Eg).tr pn xe) (.Call (.Name a p1) [] [] p2)
      (fun σZ HZ Q => σZ[i]? = some (some (.ref f)) ∧ HZ c' = some (CodeO c' (X.env.qual ++ "<lambda>")) ∧ tb σ HZ Q) := by
  refine ⟨fun pinsZ sZ σZ HZ Q IZ h => ?_⟩
  obtain ⟨hs, hc, ht⟩ := h
  refine wpAny_Call_Name_kw (thn ((pe_var (pos := p1) (i := i) hN hv hd hcd).run pinsZ sZ σZ HZ (fun v H1 => v = .ref f ∧ H1 = HZ) IZ ⟨.ref f, hs, rfl, rfl⟩) fun u s1 ⟨v, H1, I1, r1, q1⟩ => ?_)
  obtain ⟨ev, eH⟩ := q1
  subst ev
  rw [eH] at I1
  obtain rfl : u = Value.ref f := r1
  have of1 : s1.heap.get? f = some (PySem.W.kla_obj "<lambda>" (X.env.qual ++ "<lambda>") params body scope (cloFrom X.env.cells scope.names []) pm c' ctv) := I1.base.keep f _ hf hfn hfr (fun z => nomatch (show f ∈ ([] : List Addr) from z))
  refine PySem.W.callWith_F0 ⟨_, _, _, _, of1⟩ ?_
  have un : Un (frs X.stack) [] H HZ s.heap s1.heap := I1.base
  obtain ⟨⟨oc, vs, t, hoc, hdc, hvc⟩, _, _⟩ := I1.hok c' _ hc
  have rc : codeAny (model X.prog X.w) (X.A.deeper (envOfC qg sg s.heap.objs.size g cdg)) (.call (.ref f) ⟨[], []⟩) (CR (L2.CX X.prog X.w) (envOfC qg sg s.heap.objs.size g cdg :: X.stack) X.prog X.w HZ s1 Q E) s1 := by
    refine PySem.W.kla_callFunE hr.depth of1 rfl L.co L.gen rfl ⟨c', oc, vs, t, rfl, hoc, hdc, hvc⟩ ?_
    rw [hbind]
    refine wpAny_pure (wpAny_newFunctionEnv (fun y hy => (L.own y hy).2) (fun y hy => absurd hy (by simp)) (fun h₁ hns hsb => ⟨I1.nolimit.fresh _ hsb, ?_⟩) L.kind)
    show codeAny _ _ (.expr body (lamEnv X scope s1.heap.objs.size f c')) _ _
    have kp : ∀ b o, s1.heap.get? b = some o → h₁.get? b = some o := fun b o e => hsb.extBut b o (Nat.ne_of_lt (Heap.lt_size e)) (Heap.get?_push_of_some _ e)
    have J : Inv (lamCx X (X.A.deeper (envOfC qg sg s.heap.objs.size g cdg)) (envOfC qg sg s.heap.objs.size g cdg :: X.stack) s1 HZ E scope f c') [] σ HZ { s1 with heap := h₁, toks := s1.toks + ([] : List (Str × Value)).length } :=
      lam_start2 I L I1.env0 hr.hd un hns kp
    refine PySem.W.kla_codeExpr (wpAny_mono ((hbody _ _ s1 HZ (hr.deeper _) (cells_un (cells_of I cp) un)).run [] _ _ HZ Q J ht) (fun v s' hq => ?_) fun e s' hq => hq)
    obtain ⟨w', H', J', rv, q⟩ := hq
    exact ⟨w', H', J'.os, J'.bare, J'.base, J'.hok, rv, q⟩
  have hx : Passes (L2.CX X.prog X.w) ((cxOf CXg X.prog X.w X.K X.mg X.base Ng qg sg g cdg X.A X.stack s H Eg).tr pn xe) E := passes_call tk hW
  refine wpAny_call (codeAny_mono rc fun r s' hq => ?_)
  cases r with
  | error e => exact hx pinsZ σZ HZ s1 e s' I1 hq
  | ok fl =>
    cases fl with
    | ret u => exact I1.after hq
    | next => exact False.elim hq
    | brk => exact False.elim hq
    | cont => exact False.elim hq
end
/-- x(lambda: ..) whose reading leans on what captured cells hold; js: where their names stand -/
def tLamC (T : List NTab) (js : List Nat) (TT : (XK → Hp → VK → Prop) → Hp → VK → Prop) (t : List (Option V) → XK → TE) : TE := fun σ H Q => TabsN T H ∧ ∀ H1, ExtB T H H1 → TabsN T H1 → TT (fun E H' Q' => t (js.map (slotAt σ)) E σ H' Q') H1 Q
theorem pe_lcallC {X : Cx} {cl : List (Str × Addr)} {fr : List Str} {js : List Nat} {x : Str} {p pos : Pos} {k : Nat} {T : List NTab} {TT : (XK → Hp → VK → Prop) → Hp → VK → Prop} {params : Arguments} {body : Expr} {scope : Scope} {t : List (Option V) → XK → TE} {lpos : Pos} (G : LcOk X.prog X.w X.K X.mg X.base x TT) (hg : Gl X x)
    {nm : Nat → Nat → Str} (M : MakN X.base X.mg T X.env.code nm) (hn : nm lpos.line lpos.col = X.env.qual ++ "<lambda>") (hr : Room (k + 2) X.A) (L : lamSB X.env.scope scope = true) (hdef : defaultsOf params X.env = ([], []))
    (cp : X.Ok → Caps X cl fr js)
    (hbind : ∀ (q : Str) (cl : List (Str × Addr)) (pm cv ctv : Value), bindArgs (PySem.W.kla_fn "<lambda>" q params body scope cl pm cv ctv) ⟨[], []⟩ = pure [])
    (hbody : ∀ (A : Around) (outer : List Env) (s : Shared) (H : Hp) (E : XK) (f c' : Addr) (ws : List (Option V)), Room k (A.deeper (lamEnv X scope s.heap.objs.size f c')) → CellsAt cl fr ws s.heap H → PE (lamCx X A outer s H E scope f c') body (t ws E))
    (hdb : (x == ("__debug__" : Str)) = false := by decide) :
    PE X (.Call (.Name x p) [.Lambda params body scope lpos] [] pos) (tLamC T js TT t) := by
  obtain ⟨g, oc, od, osl, pg, bg, sg, dV, kV, doc, pm, cdv, ct, an, Ng, a, hm, hk, lk, hcg, hb, Sg, hNg, hva, hd, hcd, h11⟩ := G
  have L' := lamS_by L
  refine ⟨fun pins s σ H Q I h => ?_⟩
  obtain ⟨hT, h⟩ := h
  refine wpAny_Call_Name_kw (ld_glob I hg hm ?_ hdb)
  refine PySem.W.callWith_K (h₀ := X.base) I.ok.mod.kin hk ?_ (by rfl) (by rfl)
  show wpAny _ _ (spliced ((false, eval (.Lambda params body scope lpos) X.env) :: backTo pos (starEach [] X.env))) _ _ s
  refine Calls.spliced_cons (lamB I M hn hT hdef (L'.has I.ok) fun f c' pm' ctv H1 s' I1 eB T1 hf hfn hfr hco => Calls.spliced_nil ⟨I1.kIn, ?_⟩)
  refine wpAny_call (codeAny_mono (run_ofS (CX := C8.CX0) (E := C8.E0) (Q := Q) (N := Ng) (ps := [a]) (us := [.ref f]) (vs := [.ref f]) lk hcg Sg hr I1.env0 (hb s' [.ref f] I1.kIn rfl) (.cons rfl .nil) rfl fun hr' => ?_) fun r s2 hq => ?_)
  · obtain ⟨t', ht', hq'⟩ := (h11 X _ rfl rfl rfl rfl rfl) f c' s' H1 Q (fun E H' Q' => t (js.map (slotAt σ)) E σ H' Q') (fun W pn xe E p1 p2 tk hW => pe_actC (i := 0) I1 (cp I1.ok) L' hf hfn hfr (hbind _ _ _ _ _) tk hW hr' (fun A outer s H hr2 hC => hbody A outer s H E f c' _ hr2 hC) hNg hva hd hcd) hco (h H1 eB T1)
    exact ⟨t', ht'.nox, hq'⟩
  · cases r with
    | error e => exact (show False from hq).elim
    | ok fl =>
      cases fl with
      | ret u => exact I1.after hq
      | next => exact False.elim hq
      | brk => exact False.elim hq
      | cont => exact False.elim hq
/-- a def's promise that leans on what captured cells hold -/
def FnRC (P : Program) (w : World) (K : PySem.W.Frag) (mg : Str → Option Value) (base : Heap) (CX : CXT) (k : Nat) (f : Addr) (cl : List (Str × Addr)) (fr : List Str) (ws : List (Option V)) (sp : Sp) : Prop :=
  ∀ (A : Around) (outer : List Env) (s : Shared) (H : Hp) (us : List Value) (vs : List V) (Q : VK) (E : XK), Room k A → Env0 P w K mg base A outer s H → CellsAt cl fr ws s.heap H → Vals vs us → sp vs H Q E →
    codeAny (model P w) A (.call (.ref f) ⟨us, []⟩) (CR CX outer P w H s Q E) s
section
variable {X : Cx} {CX : CXT} {mk : Addr → NF} {cl : List (Str × Addr)} {ps fr : List Str} {ws : List (Option V)} {i j k : Nat} {C q g : Addr} {mc : Value} {x m : Str} {sp : Sp} {spn : List (Option V) → Sp} {E : XK} {t : TA} {ta : TE} {e o : Expr} {es : List Expr} {p pos apos : Pos} {pl : Sem Bool}
theorem pe_cmethC (C0 : CellsAt cl fr ws X.s_0.heap X.H_0) (hex : X.ex = []) (he : PE X o ta) (r : CRead X.K C mc) (c : CMet X.K C mc m q g) (F : FnRC X.prog X.w X.K X.mg X.base CX k g cl fr ws sp) (hr : Room k X.A) (hx : Passes CX X E) (ha : PA X (e :: es) t)
    (hst : starEach (e :: es) X.env = (false, eval e X.env) :: starEach es X.env := by rfl) (hpl : (backTo pos (starEach es X.env)).any (·.1) = false := by rfl)
    (ht : eval (.Call (.Attribute o m apos) (e :: es) [] pos) X.env = (do
      let ov ← eval o X.env
      standAt apos.atName
      let (f, first) ← holding [ov] (getMethod ov m pl)
      callWith pos f first (backTo pos (starEach (e :: es) X.env)) (backToKw pos (keywordEach [] X.env))) := by rfl) :
    PE X (.Call (.Attribute o m apos) (e :: es) [] pos) (tCMeth C sp E ta t) := by
  refine ⟨fun pins s σ H Q I h => ?_⟩
  refine PySem.W.methodCall_KW (pl := pl) (thn (he.run pins s σ H _ I h) fun u s1 ⟨x, H1, I1, rx, ex, q⟩ => ?_) ht
  subst ex
  obtain rfl : u = Value.ref C := rx
  refine getmethcm_ok I1 r c fun s2 I2 => ?_
  refine callwith_cm I2 (base_none I1 (Nat.le_refl _)) c.fi (thn (ha.run pos _ s2 σ H1 _ I2 q) fun us s3 ⟨vs, H2, I3, rv, q2⟩ => ⟨⟨pin_at I3, I3.kIn⟩, ?_⟩) hst hpl
  have z : wpAny (model X.prog X.w) X.A (call (.ref s1.heap.objs.size) us) (EP X ((s1.heap.objs.size, PySem.W.methodObj (.ref g) (.ref C)) :: pins) σ Q) X.xe s3 := by
    refine wpAny_call (PySem.W.method_call (pin_at I3) (codeAny_mono (F X.A X.stack s3 H2 (.ref C :: us) (.ref C :: vs) Q E hr I3.env0 (cells_in C0 hex I3) (.cons rfl rv) q2) fun r s' hq => ?_))
    cases r with
    | error e => exact hx _ σ H2 s3 e s' I3 hq
    | ok fl =>
      cases fl with
      | ret u => exact I3.after hq
      | next => exact False.elim hq
      | brk => exact False.elim hq
      | cont => exact False.elim hq
  exact thn z fun _ _ y => unpinE y
/-- f(..), f a name that holds a def made elsewhere -/
def tCallF (mk : Addr → NF) (i : Nat) (sp : Sp) (E : XK) (t : TA) : TE := fun σ H Q => ∃ f c', σ[i]? = some (some (.ref f)) ∧ H f = some (FnO f (mk c')) ∧
  t σ H fun vs H1 => H1 f = some (FnO f (mk c')) ∧ H1 (mk c').c = some (CodeO (mk c').c (mk c').qual) ∧ sp vs H1 Q E
theorem pe_callF (C0 : CellsAt cl fr ws X.s_0.heap X.H_0) (hex : X.ex = []) (Fn : ∀ f c', NOk X.prog X.w X.K X.mg X.base CX k f (mk c') ps fr spn) (hcl : ∀ c', (mk c').cl = cl) (hr : Room j X.A) (hk : k ≤ j) (hx : Passes CX X E) (hN : X.N[i]? = some x) (hv : Vis X.env.scope x) (ha : PA X (e :: es) t)
    (hd : (x == ("__debug__" : Str)) = false := by decide) (hcd : (x == ("__classdict__" : Str)) = false := by decide)
    (he : starEach (e :: es) X.env = (false, eval e X.env) :: starEach es X.env := by rfl) (hpl : (backTo pos (starEach es X.env)).any (·.1) = false := by rfl) :
    PE X (.Call (.Name x p) (e :: es) [] pos) (tCallF mk i (spn ws) E t) := by
  refine ⟨fun pins s σ H Q I h => ?_⟩
  obtain ⟨f, c', hs, hf, ht⟩ := h
  refine wpAny_Call_Name_kw (thn ((pe_var (pos := p) hN hv hd hcd).run pins s σ H (fun v H1 => v = .ref f ∧ H1 = H) I ⟨.ref f, hs, rfl, rfl⟩) fun u s1 ⟨v, H1, I1, r1, q1⟩ => ?_)
  obtain ⟨ev, eH⟩ := q1
  subst ev
  rw [eH] at I1
  obtain rfl : u = Value.ref f := r1
  refine PySem.W.callWith_F (first := []) (fnAt_of I1 hf) (thn (ha.run pos pins s1 σ H _ I1 ht) fun us s2 ⟨vs, H2, I2, r, h1, h2, q⟩ => ⟨fnAt_of I2 h1, ?_⟩) he hpl
  show wpAny _ _ (call (.ref f) us) _ _ _
  refine wpAny_call (codeAny_mono ((Fn f c').run X.A X.stack s2 H2 us vs ws Q E (hr.mono hk) I2.env0 h1 h2 (by rw [hcl c']; exact cells_in C0 hex I2) r q) fun r s' hq => ?_)
  cases r with
  | error e => exact hx pins σ H2 s2 e s' I2 hq
  | ok fl =>
    cases fl with
    | ret u => exact I2.after hq
    | next => exact False.elim hq
    | brk => exact False.elim hq
    | cont => exact False.elim hq
end
/-! ### def x(..): .. within a def: of all that is told only the tables named may change -/
def tNdefB (T : List NTab) (i : Nat) (mk : Addr → NF) : TS := fun D σ H => TabsN T H ∧ ∀ (f c' : Addr) (H1 : Hp), ExtB T H H1 → TabsN T H1 → H f = none → H1 f = some (FnO f (mk c')) → H1 c' = some (CodeO c' (mk c').qual) → D.nx (σ.set i (some (.ref f))) H1
section
variable {X : Cx} {pins : List (Addr × Obj)} {σ : L2.St} {H : Hp} {s : Shared}
theorem extB_grown {T : List NTab} {P c' f : Addr} {ps more : Array Value} {q : Str} {F : NF} (hP : H P = some (.tbl ps)) (hm : P ∈ T.map (·.1)) (nC : H c' = none) (nF : upd (upd H P (.tbl (ps ++ more))) c' (CodeO c' q) f = none) : ExtB T H (upd (upd (upd H P (.tbl (ps ++ more))) c' (CodeO c' q)) f (FnO f F)) := by
  have nc : P ≠ c' := ne_of_none hP nC
  refine ⟨fun b o hb n => ?_, fun b hb e => hb (upd_none (upd_none (upd_none e)))⟩
  have h1 : upd (upd H P (.tbl (ps ++ more))) c' (CodeO c' q) b = some o := by rw [upd_ne (ne_of_none hb nC), upd_ne (fun w => n (by rw [w]; exact hm))]; exact hb
  rw [upd_ne (ne_of_none h1 nF)]
  exact h1
theorem ndefB {T : List NTab} {nm : Nat → Nat → Str} {name : Str} {params : Arguments} {body : List Stmt} {scope : Scope} {pos : Pos} {E Q : Value → Shared → Prop} (I : Inv X pins σ H s) (M : MakN X.base X.mg T X.env.code nm) (hn : nm pos.line pos.col = X.env.qual ++ name) (hT : TabsN T H)
    (hfree : ∀ y ∈ scope.names, y.2 = .free → ∃ c, X.env.cells.lookup y.1 = some c)
    (q : ∀ (f c' : Addr) (H1 : Hp) (s' : Shared), Inv X pins σ H1 s' → ExtB T H H1 → TabsN T H1 → H f = none → H1 f = some (FnO f ⟨name, X.env.qual ++ name, params, body, scope, cloFrom X.env.cells scope.names [], c'⟩) → H1 c' = some (CodeO c' (X.env.qual ++ name)) → Q (.ref f) s') :
    wpAny (model X.prog X.w) X.A (makeFunction name (X.env.qual ++ name) params (.stmts body) scope X.env [] [] [] pos pos.line) Q E s := by
  obtain ⟨c, P, hcode, TB, hm, hu⟩ := M.ex
  obtain ⟨ps, hP, ht, ha⟩ := (show TabN H P nm from hT _ hm)
  have inT : P ∈ T.map (·.1) := List.mem_map.mpr ⟨_, hm, rfl⟩
  have tblP := I.hok P _ hP
  have bP := TB.bm.keeps I.bk
  have glob := I.mod.glob.keeps I.bk
  cases hc : codeAmong pos ps.toList with
  | some cv =>
    obtain ⟨c', rfl, hco⟩ := ha pos cv hc
    rw [hn] at hco
    refine PySem.W.makeFunction_hit (mg := X.mg) (closure_ok hfree) I.ok.glob glob hcode (TB.code.keeps I.bk) tblP ht hc bP fun ctv doc h' tk hx hsz => ?_
    have I1 : Inv X pins σ H { s with heap := h', toks := tk } := I.kept hx
    have nF : H h'.objs.size = none := I1.hok.fresh (Nat.le_refl _)
    have ex : ∀ b o, H b = some o → upd H h'.objs.size (FnO h'.objs.size ⟨name, X.env.qual ++ name, params, body, scope, cloFrom X.env.cells scope.names [], c'⟩) b = some o := fun b o e => by rw [upd_ne (ne_of_none e nF)]; exact e
    exact q _ c' _ _ (inv_fn (t' := tk) (doc := doc) (pm := (X.mg "__name__").getD .none) (ctv := ctv) I1 rfl) ⟨fun b o e _ => ex b o e, fun b hb e => hb (upd_none e)⟩ (hT.ext ex) nF upd_same (ex _ _ hco)
  | none =>
    refine PySem.W.makeFunction_K (mg := X.mg) (closure_ok hfree) I.ok.glob glob hcode (TB.code.keeps I.bk) tblP ht hc TB.gP bP fun c' ctv doc h' tk hx hge hlt hrec htb => ?_
    obtain ⟨c2, oc, vs, t, e2, hoc, hd, hv⟩ := hrec
    cases e2
    have nC : H c' = none := I.hok.fresh hge
    have I1 := inv_table (t' := tk) (more := #[rawInt pos.line, rawInt pos.col, .ref c']) (h' := h') I hP (fun b o hb e => hx b o hb e) htb hge ⟨oc, vs, t, hoc, hd, hv⟩
    have nF := I1.hok.fresh (Nat.le_refl h'.objs.size)
    have eB := extB_grown (T := T) (F := ⟨name, X.env.qual ++ name, params, body, scope, cloFrom X.env.cells scope.names [], c'⟩) hP inT nC nF
    have atC : upd (upd (upd H P (.tbl (ps ++ #[rawInt pos.line, rawInt pos.col, .ref c']))) c' (CodeO c' (X.env.qual ++ name))) h'.objs.size (FnO h'.objs.size ⟨name, X.env.qual ++ name, params, body, scope, cloFrom X.env.cells scope.names [], c'⟩) c' = some (CodeO c' (X.env.qual ++ name)) := by rw [upd_ne (Nat.ne_of_lt hlt), upd_same]
    have atP : upd (upd (upd H P (.tbl (ps ++ #[rawInt pos.line, rawInt pos.col, .ref c']))) c' (CodeO c' (X.env.qual ++ name))) h'.objs.size (FnO h'.objs.size ⟨name, X.env.qual ++ name, params, body, scope, cloFrom X.env.cells scope.names [], c'⟩) P = some (.tbl (ps ++ #[rawInt pos.line, rawInt pos.col, .ref c'])) := by
      have h1 : upd (upd H P (.tbl (ps ++ #[rawInt pos.line, rawInt pos.col, .ref c']))) c' (CodeO c' (X.env.qual ++ name)) P = some (.tbl (ps ++ #[rawInt pos.line, rawInt pos.col, .ref c'])) := by rw [upd_ne (ne_of_none hP nC), upd_same]
      rw [upd_ne (ne_of_none h1 nF)]
      exact h1
    have code : ∀ d z, H d = some (CodeO d z) → upd (upd (upd H P (.tbl (ps ++ #[rawInt pos.line, rawInt pos.col, .ref c']))) c' (CodeO c' (X.env.qual ++ name))) h'.objs.size (FnO h'.objs.size ⟨name, X.env.qual ++ name, params, body, scope, cloFrom X.env.cells scope.names [], c'⟩) d = some (CodeO d z) := fun d z e => by
      have n1 : d ≠ P := fun w => by
        rw [w, hP] at e
        exact codeO_ne ps (Option.some.inj e).symm
      have h1 : upd (upd H P (.tbl (ps ++ #[rawInt pos.line, rawInt pos.col, .ref c']))) c' (CodeO c' (X.env.qual ++ name)) d = some (CodeO d z) := by rw [upd_ne (ne_of_none e nC), upd_ne n1]; exact e
      rw [upd_ne (ne_of_none h1 nF)]
      exact h1
    refine q h'.objs.size c' _ _ (inv_fn (t' := tk) (doc := doc) (pm := (X.mg "__name__").getD .none) (ctv := ctv) I1 rfl) eB (tabs_code (fun p hp => ?_) code) (I.hok.fresh (Nat.le_trans hge (Nat.le_of_lt hlt))) upd_same atC
    by_cases hb : p.1 = P
    · rw [hu p hp hb, hb]
      have eL : (ps ++ #[rawInt pos.line, rawInt pos.col, .ref c']).toList = ps.toList ++ [rawInt pos.line, rawInt pos.col, .ref c'] := by simp
      refine ⟨_, atP, by rw [eL]; exact PySem.TriplesOk_snoc _ _ _ _ ht, fun p' cv z => ?_⟩
      rw [eL] at z
      rcases among_app2 _ ht z with z | ⟨z, z2, z3⟩
      · obtain ⟨c0, e1, e2⟩ := ha p' cv z
        exact ⟨c0, e1, .inl e2⟩
      · exact ⟨c', z, .inr (by rw [← z2, ← z3, hn]; exact atC)⟩
    · obtain ⟨ps', a1, a2, a3⟩ := hT p hp
      refine ⟨ps', ?_, a2, fun p' cv z => by obtain ⟨c0, e1, e2⟩ := a3 p' cv z; exact ⟨c0, e1, .inl e2⟩⟩
      have h1 : upd (upd H P (.tbl (ps ++ #[rawInt pos.line, rawInt pos.col, .ref c']))) c' (CodeO c' (X.env.qual ++ name)) p.1 = some (.tbl ps') := by rw [upd_ne (ne_of_none a1 nC), upd_ne hb]; exact a1
      rw [upd_ne (ne_of_none h1 nF)]
      exact h1
theorem ps_ndefB {st : Stmt} {T : List NTab} {nm : Nat → Nat → Str} {name : Str} {pos : Pos} {i : Nat} (hst : st = .FunctionDef name (C8.fnArgs st) (C8.fnBody st) [] none [] (C8.fnScope st) none name pos) (M : MakN X.base X.mg T X.env.code nm) (hn : nm pos.line pos.col = X.env.qual ++ name)
    (hfree : ∀ y ∈ (C8.fnScope st).names, y.2 = .free → X.env.scope.names.lookup y.1 = some .cell ∨ X.env.scope.names.lookup y.1 = some .free) (hd0 : (C8.fnArgs st).defaults = []) (hk0 : (C8.fnArgs st).kw_defaults = []) (ha : annTrees (C8.fnArgs st) none X.env = [])
    (hN : X.N.Nodup) (hi : X.N[i]? = some name) (hx : Loc X.env.scope name) (hf : X.fn name = true ∨ X.env.scope.names.lookup name = some .local) :
    PS X st (tNdefB T i (NF.of st name (X.env.qual ++ name) (cloFrom X.env.cells (C8.fnScope st).names []))) := by
  have key : PS X (.FunctionDef name (C8.fnArgs st) (C8.fnBody st) [] none [] (C8.fnScope st) none name pos) (tNdefB T i (NF.of st name (X.env.qual ++ name) (cloFrom X.env.cells (C8.fnScope st).names []))) := by
    refine ⟨fun pins s σ H D I h => ?_⟩
    have hq : qualnameIn X.env name name = X.env.qual ++ name := by
      have hk : X.env.kindOf name = some .local ∨ X.env.kindOf name = some .cell := hx
      unfold qualnameIn
      rcases hk with k | k <;> rw [k] <;> first | rfl | exact if_neg (by decide)
    refine PySem.W.nestDef_K hd0 hk0 ha ?_
    rw [hq]
    exact ndefB I M hn h.1 (fun y hy e => (hfree y hy e).elim (fun z => I.ok.has _ (.inl z)) fun z => I.ok.has _ (.inr z)) fun f c' H1 s' I1 eB T1 f0 f1 c1 => store_ok I1 hN hi hx (v := .ref f) rfl (fun s'' J => ⟨_, H1, J, h.2 f c' H1 eB T1 f0 f1 c1⟩) hf
  rw [← hst] at key
  exact key
end
end Fp

set_option maxHeartbeats 1000000
/-! dicts keyed by tuples, asked with any tuple (one that is written in the text, too) -/
namespace Fp
open PySem PySem.Spec PyProof.Rows L2
section
variable {X : Cx} {pins : List (Addr × Obj)} {σ : L2.St} {H : Hp} {s : Shared} {a b : Addr} {A : Around} {E : Value → Shared → Prop} {kvs : List (List Key × V)} {k : List Key} {v : V}
theorem key_ofS (I : Inv X pins σ H s) (e : SqT X.K H b (k.map L2.kV)) : (tupleKind (mixKind X.prog X.w)).is s.heap k b := by
  obtain ⟨its, r, ⟨o, ho, hc, n, hd⟩, hz⟩ := I.tuple e
  exact ⟨o, its.toArray, n, ho, hc, hd, by simpa using items_are r⟩
theorem dt_getS {Q : Value → Shared → Prop} (hu : A.units + 1 < cLine) (I : Inv X pins σ H s) (e : H a = some (.dT kvs)) (eb : SqT X.K H b (k.map L2.kV)) (l : valV kvs k = some v) (h : ∀ w' s', Inv X pins σ H s' → L2.RelV v w' → Q w' s') :
    wpAny (model X.prog X.w) A (getItem (.ref a) (.ref b)) Q E s := by
  obtain ⟨z, hd, xs, rel, dd⟩ := dt_of I.hok e
  obtain ⟨w', hw, rw'⟩ := RelO.some_of (v := v) (o := (atKey xs k).map (·.2)) (by rw [← l]; exact rel.val k)
  obtain ⟨p, hp, hp2⟩ := Option.map_eq_some_iff.mp hw
  refine wpAny_getItem_heap (tupleKind_room_in1 hu) (key_ofS I eb) dd hp ?_
  rw [hp2]
  exact h w' _ (I.tok _) rw'
theorem dt_inS {Q : Value → Shared → Prop} (hu : A.units + 1 < cLine) (I : Inv X pins σ H s) (e : H a = some (.dT kvs)) (eb : SqT X.K H b (k.map L2.kV)) (h : ∀ s', Inv X pins σ H s' → Q (.bool (valV kvs k).isSome) s') :
    wpAny (model X.prog X.w) A (compareOp .In (.ref b) (.ref a)) Q E s := by
  obtain ⟨z, hd, xs, rel, dd⟩ := dt_of I.hok e
  refine wpAny_in_heap (tupleKind_room_in1 hu) (key_ofS I eb) hd dd ?_
  have q := (rel.val k).isSome_eq
  rw [Option.isSome_map] at q
  rw [← q]
  exact h _ (I.tok _)
end
/-- y in d, d[y]: y a tuple -/
def tDInT (K : PySem.W.Frag) (ty td : TE) : TE := fun σ H Q => ty σ H fun y H1 => td σ H1 fun x H2 => ∃ a b kvs k, x = .ref a ∧ H2 a = some (.dT kvs) ∧ y = .ref b ∧ SqT K H2 b (k.map L2.kV) ∧ Q (.bl (valV kvs k).isSome) H2
def tDGetT (K : PySem.W.Frag) (td ty : TE) : TE := fun σ H Q => td σ H fun x H1 => ty σ H1 fun y H2 => ∃ a b kvs k v, x = .ref a ∧ H2 a = some (.dT kvs) ∧ y = .ref b ∧ SqT K H2 b (k.map L2.kV) ∧ valV kvs k = some v ∧ Q v H2
section
variable {X : Cx} {o i : Expr} {pos : Pos} {td ty : TE}
theorem pe_dgetT (K : PySem.W.Frag) (hu : X.A.units + 1 < cLine) (ho : PE X o td) (hi : PE X i ty) (hs : NoSl i) (hK : X.K = K := by rfl) : PE X (.Subscript o i pos) (tDGetT K td ty) := by
  subst hK
  refine ⟨fun pins s σ H Q I h => ?_⟩
  refine subD_of PySem.F.slot_dict_getitem.lookup hs (thn (ho.run pins s σ H _ I h) fun u s1 ⟨x, H1, I1, rx, q1⟩ => thn (hi.run pins s1 σ H1 _ I1 q1) fun iv s2 ⟨y, H2, I2, ry, a, b, kvs, k, v, ex, ha, ey, hb, l, q2⟩ => ?_)
  subst ex
  subst ey
  obtain rfl : u = Value.ref a := rx
  obtain rfl : iv = Value.ref b := ry
  exact ⟨by obtain ⟨_, _, xs, _, dd⟩ := dt_of I2.hok ha; exact dd.typeIs, dt_getS hu I2 ha hb l fun w' s3 I3 rw' => ⟨v, H2, I3, rw', q2⟩⟩
theorem pc_dinT (K : PySem.W.Frag) (hu : X.A.units + 1 < cLine) (hi : PE X i ty) (ho : PE X o td) (hK : X.K = K := by rfl) : PC X .In i o (tDInT K ty td) := by
  subst hK
  refine ⟨fun pins s σ H Q I h => ?_⟩
  refine thn (hi.run pins s σ H _ I h) fun iv s1 ⟨y, H1, I1, ry, q1⟩ => thn (ho.run pins s1 σ H1 _ I1 q1) fun u s2 ⟨x, H2, I2, rx, a, b, kvs, k, ex, ha, ey, hb, q2⟩ => ?_
  subst ex
  subst ey
  obtain rfl : u = Value.ref a := rx
  obtain rfl : iv = Value.ref b := ry
  exact dt_inS hu I2 ha hb fun s3 I3 => ⟨.bl (valV kvs k).isSome, H2, I3, rfl, q2⟩
end
end Fp

namespace Fp
open PySem PySem.Spec PyProof.Rows L2 Fd
local macro_rules | `(tactic| walk_at "rd") => `(tactic| simp only [cxK, cxKn, tRet, tRetN, rIntI, rIntB, rLenL, rListL, rListT, rAbs, tDisp, tPairs, tC, tCB, tCons, tNil, tSl, tVar, tNoPart, tPart, rSlL, tOp, tAsg, gName, tIfS, tDrop, tTest, tAnd, tOr, Evl.tCut, tNot, tB, rI0, rI, rIxL, rIxT, rIxD, tDGet, sDPut, tLst, tTup, tBM, tBM0, tPar, rAppend, rPopAt, rPop, rExtend, rTupL, tCall, tNext, rAll, rOwnIn, rOwn2, rCat, lc_iL, lc_iT, lc_iK, lc_iR, lc_iE, fr_iL, fr_iT, fr_iR, tYes, rIn, rEq, rNe, gTup, gCons, gNil, wipe, tMeth, tFld, sFld, tMake, tProp, tIf, tAndV, tOrV, tNotV, tTru, rIsi, rSum, tRevL, rU, tUn, rIxS, iEnum, if_true, if_false, Bool.false_eq_true, List.map_cons, List.map_nil, List.nil_append, List.append_nil, List.cons_append, List.getElem?_cons_zero, List.getElem?_cons_succ, Option.some.injEq, exists_and_left, exists_eq_left', exists_eq_left, List.cons.injEq, and_true, true_and, V.ref.injEq, V.int.injEq, V.str.injEq, V.bl.injEq, List.set_cons_zero, List.set_cons_succ])
local macro_rules | `(tactic| walk_at "ev") => `(tactic| (repeat' (first | (with_reducible first | exact ev_int | exact ev_str | exact ev_bl | exact ev_non | exact eva_nil | apply eva_cons | exact r2_add | exact r2_sub | exact r2_lt | exact r2_le | exact r2_gt | exact r2_ge | exact r2_eqI | exact r2_neI | exact r2_eqS | exact r2_neS | exact ra_len | exact ra_intI | exact ra_list | apply ev_op | apply ev_cb | apply evb_T (lv := true) | apply evb_B (lv := true) | apply evb_not) | ((with_reducible apply ev_var); exact rfl))))
def topS (i : Nat) : Stmt := PySem.Challenge.pw_foldplans_k26_tables_refused.main.body.getD i (.Pass ⟨0, 0, 0, 0⟩)
section
variable {K : PySem.W.Frag} {P : Program} {w : World} {base : Heap} {mg : Str → Option Value} {C FE CT CV CS : Addr}
theorem mD_inj {A B : List (List Int)} (h : mD A = mD B) : A = B := by
  unfold mD at h
  exact (List.map_inj_right fun x y hxy => (List.map_inj_right fun x y h => PyData.int.inj h).mp (PyData.list.inj hxy)).mp (PyData.list.inj h)
def tbF (E : List (List Int)) : List (PyData × PyData) := [(.str "size", .int (E.length : Nat)), (.str "_rows", mD E)]
theorem tbF_size (E : List (List Int)) : fld "size" (tbF E) = some (.int (E.length : Nat)) := by unfold tbF fld; rw [if_pos rfl]
theorem tbF_rows (E : List (List Int)) : fld "_rows" (tbF E) = some (mD E) := by unfold tbF fld; rw [if_neg s_sr]; unfold fld; rw [if_pos rfl]
theorem tbF_no (E : List (List Int)) {m : Str} (h1 : ¬ ("size" : Str) = m) (h2 : ¬ ("_rows" : Str) = m) : fld m (tbF E) = none := by unfold tbF fld; rw [if_neg h1]; unfold fld; rw [if_neg h2]; rfl
theorem tbF_inj {A B : List (List Int)} (h : iD C (tbF A) = iD C (tbF B)) : A = B := by
  unfold iD tbF at h
  injection h with h
  injection h with _ h
  injection h with _ h
  injection h with h _
  injection h with _ h
  exact mD_inj h
def pCk : List PyData → PyData → Prop := fun ds d => ∃ (zs : List Int) (n : Int), ds = [.list (zs.map .int), .int n] ∧ (∀ z ∈ zs, OkV n z) ∧ d = .none
abbrev s__check_values : Stmt := topS 10
theorem sc__check_values : FnScope ["values", "size", "value"] ["values", "size"] (defScope s__check_values) := ⟨rfl, rfl, rfl, by decide +kernel, rfl, by decide +kernel, by decide +kernel⟩
theorem ok_check {f : Addr} {fd : FuncData} (F : Fun K "_check_values" "_check_values" s__check_values f fd) (m_isinstance : mg "isinstance" = none) (m_int : mg "int" = none) (m_bool : mg "bool" = none) : FnOk P w K mg base CX0 1 f fd ["values", "size"] (spV K pCk) := by
  refine fun_V F sc__check_values (by decide) (fun ds d h => by obtain ⟨_, _, rfl, _⟩ := h; rfl) (fun cdv A outer s H E ds d hr h => ?_)
  obtain ⟨zs, n, rfl, ho, rfl⟩ := h
  refine ⟨_, (pss_one (ps_for PassesOwn.never rfl (pi_listK K (pv 0)) (pg_name (i := 2) sc__check_values.nd rfl (.inl rfl))
      (pss_one (ps_if (PW.pt (pw_or (pt_not (pt_val (pe_callB (call_isi1 (K := K)) (by rfl) m_isinstance (by decide +kernel) (pa_cons (pv 2) (pa_cons (pe_bltn (v := .ty "int") rfl m_int (by decide +kernel) rfl) pa_nil))))) (pw_or (pt_val (pe_callB (call_isi1 (K := K)) (by rfl) m_isinstance (by decide +kernel) (pa_cons (pv 2) (pa_cons (pe_bltn (v := .ty "bool") rfl m_bool (by decide +kernel) rfl) pa_nil)))) (pw_or1 (pt_not (pt_chain op_le op_lt pe_int (pv 2) (pv 1)))))))
      (pss_one ps_never)
      pss_nil)))), ?_⟩
  show Sw K none [.d (.list (zs.map .int)), .d (.int n), .u] 0 _ _
  refine sw_for (vs := [2]) (evi_list (ev_var rfl)) (fun i δ t' => ∃ a, δ = [.d (.list (zs.map .int)), .d (.int n), a] ∧ a.adr = []) ⟨.u, rfl, rfl⟩ (fun i d δ t' hd hI => ?_) (fun δ t' hI => rfl)
  obtain ⟨a, rfl, ha⟩ := hI
  obtain ⟨z, hz, rfl⟩ := List.mem_map.mp (List.mem_of_getElem? hd)
  have oz := ho z hz
  unfold OkV at oz
  refine ⟨_, fun q hq => own_put sl_adr q hq, tg_name (by simp), sw_if (c := false) ((evb_or (a := !true) (b := false || !(decide (0 ≤ z) && decide (z < n))) (evb_not (evb_isi (lv := true) (z := z) (ev_var rfl) (by decide +kernel))) (fun _ => evb_or (a := false) (evb_isi (lv := true) (z := z) (ev_var rfl) (by decide +kernel)) (fun _ => evb_not (evb_T (lv := true) (ev_chain ev_int (ev_var rfl) (ev_var rfl) r2_le r2_lt))))).cast ?_) (fun h => nomatch h) (fun _ => sw_next ⟨_, rfl, rfl⟩)⟩
  simp [oz]
abbrev s_Table___init__ : Stmt := inClass (topS 12) 0
theorem sc_Table___init__ : FnScope ["self", "size", "_"] ["self", "size"] (defScope s_Table___init__) := ⟨rfl, rfl, rfl, by decide +kernel, rfl, by decide +kernel, by decide +kernel⟩
theorem ok_tinit {f : Addr} {fd : FuncData} (F : Fun K "__init__" "Table.__init__" s_Table___init__ f fd) (TX : TxT K mg C) (tG : Tok) (m__GREATEST_SIZE : mg "_GREATEST_SIZE" = some (.int 60 tG)) (m_range : mg "range" = none) : FnOk P w K mg base CX0 1 f fd ["self", "size"] (spTN C) := by
  refine F.ok sc_Table___init__ (fun vs H Q E h => ?_) (fun cdv A outer s H vs Q E hr h => ?_)
  · obtain ⟨p, dx, n, rfl, _⟩ := h
    rfl
  · obtain ⟨p, dx, n, rfl, hp, h1, h2, q⟩ := h
    let _GREATEST_SIZE : Int := 60
    refine ⟨_, (pss_cons (ps_if (pt_not (pt_chain op_le op_le pe_int (pv 1) (pe_glob rfl m__GREATEST_SIZE (v := .int _GREATEST_SIZE) ⟨_, rfl⟩)))
      (pss_one ps_never)
      pss_nil)
    (pss_cons (ps_fldK K (pv 0) (pv 1) rfl)
    (pss_one (ps_fldK K (pv 0) (pe_lc (own := [("_", 2)]) rfl sc_Table___init__.nd (pi_range1 rfl m_range (pa_cons (pv 1) pa_nil)) (blkOk_by (by kernel_rfl)) (fun _ _ _ _ _ => (pg_name (i := 2) sc_Table___init__.nd rfl (.inl rfl))) (fun _ _ _ _ _ => pts_nil) (fun _ _ _ _ _ => (pe_op op_rep (pe_lst (pa_cons pe_int pa_nil)) (pv 1)))) rfl)))), ?_⟩
    show tSeq _ _ _ [some (.ref p), some (.int n), none] H
    refine seqi fun k0 hk0 => ?_
    have rel : ∀ H : Hp, Rel K (fun _ => false) H [some (.ref p), some (.int n), none] [.v (.ref p), .d (.int n), .u] := fun H => ⟨rfl, fun i s hi => by
      match i, hi with
      | 0, rfl => rfl
      | 1, rfl => exact ⟨_, rfl, .int _⟩
      | 2, rfl => trivial
      | _ + 3, h => simp at h, List.nodup_nil, fun q hq => nomatch hq⟩
    have al : ∀ H : Hp, Al (fun _ => false) H := fun H a h => nomatch h
    have tst : EvB K [.v (.ref p), .d (.int n), .u] (tNot (tTest (tChain (rI0 fun i j => .bl (decide (i ≤ j))) (rI0 fun i j => .bl (decide (i ≤ j))) (tC (.int 1)) (tVar 1) (tC (.int 60))))) false := (evb_not (evb_T (lv := true) (ev_chain ev_int (ev_var rfl) ev_int r2_le r2_le))).cast (by simp; omega)
    refine tst _ H _ (al H) (rel H) _ fun H0 e0 => ?_
    show k0 _ H0
    subst hk0
    refine seqi fun k0 hk0 => ?_
    walk_at "rd"
    refine ⟨C, dx, [], e0 _ _ hp, TX.cl, TX.nS, (by decide), ?_⟩
    generalize hH1 : upd H0 p (.ins C dx (putF ("size" : Str) (.int n) [])) = H1
    have h1p : H1 p = some (.ins C dx (putF ("size" : Str) (.int n) [])) := by rw [← hH1, upd_same]
    have h1b : ∀ b o, H b = some o → b ≠ p → H1 b = some o := fun b o hb ne => by
      rw [← hH1, upd_ne ne]
      exact e0 _ _ hb
    have h1n : ∀ b, H1 b = none → H b = none := fun b hb => by
      by_cases w : b = p
      · rw [w, h1p] at hb; cases hb
      · cases e : H b with
        | none => rfl
        | some o => rw [h1b b o e w] at hb; cases hb
    subst hk0
    have mk : EvM K [.v (.ref p), .d (.int n), .u] (tLc (iRng1 (tCons (tVar 1) tNil)) (gName 2) tYes (tOp rRep (tLst (tCons (tC (.int 0)) tNil)) (tVar 1)) [2]) ((List.range n).map fun _ => List.replicate n (0 : Int)) := by
      refine evm_lc (st := true) (as := List.range n) (dat := fun (i : Nat) => PyData.int (0 + i)) (fv := fun _ => List.replicate n 0) (by
        have := evi_range1 (K := K) (lv := true) (st := true) (δ := [.v (.ref p), .d (.int n), .u]) (ta := tCons (tVar 1) tNil) (n := (n : Int)) (eva_cons (ev_var rfl) eva_nil) (by omega) (by omega)
        rw [Int.toNat_natCast] at this
        exact this) rfl (by rw [List.length_range]; omega) (fun a ha => ⟨_, by rfl, tg_name (by simp), ?_⟩)
      refine (evo_rep (k := (n : Int)) (ds := [.int 0]) (ev_lst (eva_cons ev_int eva_nil) (by simp)) (ev_var rfl) (by simp; omega) (by omega) (by omega)).cast ?_
      simp
    show sFld K (tVar 0) _ "_rows" _ [some (.ref p), some (.int n), none] H1
    refine mk _ H1 _ (al H1) (rel H1) _ fun A rs H2 e2 hn nd hm => ?_
    walk_at "rd"
    have h2p := e2 _ _ h1p
    refine ⟨C, dx, _, h2p, TX.cl, TX.nR, (show 1 < 1000 by decide), ?_⟩
    have pm : p ∉ A :: rs := fun w => by
      have := hn p w
      rw [h1p] at this; cases this
    have em : (List.range n).map (fun _ => List.replicate n (0 : Int)) = zeroM n := by unfold zeroM; simp [List.map_const']
    refine q A rs _ (fun b o hb ne => ?_) (fun a ha => h1n a (hn a ha)) nd upd_same ?_
    · rw [upd_ne ne]
      exact e2 _ _ (h1b b o hb ne)
    · rw [← em]
      exact hm.mono fun a o ha h => by rw [upd_ne (fun w => pm (by rw [← w]; exact ha))]; exact h
def badV (n : Int) (z : Int) : Bool := !(decide (0 ≤ z) && decide (z < n))
def pCkA : List PyData → Prop := fun ds => ∃ (zs : List Int) (n : Int), ds = [.list (zs.map .int), .int n] ∨ ds = [.tuple (zs.map .int), .int n]
def pCkF : List PyData → PyData → Prop := fun ds d => d = .none ∧ ∀ (zs : List Int) (n : Int), (ds = [.list (zs.map .int), .int n] ∨ ds = [.tuple (zs.map .int), .int n]) → zs.find? (badV n) = none
def pCkG (CV : Addr) : List PyData → Addr → List (Str × PyData) → Prop := fun ds CE fs => ∃ (zs : List Int) (n z : Int), (ds = [.list (zs.map .int), .int n] ∨ ds = [.tuple (zs.map .int), .int n]) ∧ zs.find? (badV n) = some z ∧ CE = CV ∧ fs = [(("value" : Str), PyData.int z)]
theorem ints_inj2 : ∀ {a b : List Int}, a.map PyData.int = b.map PyData.int → a = b
  | [], [], _ => rfl
  | [], _ :: _, h => by cases h
  | _ :: _, [], h => by cases h
  | x :: a, y :: b, h => by
    injection h with h1 h2
    injection h1 with h1
    rw [h1, ints_inj2 h2]
theorem find_take {p : Int → Bool} {zs : List Int} {i : Nat} {z : Int} (h : (zs.take i).find? p = none) (hz : zs[i]? = some z) : (p z = true → zs.find? p = some z) ∧ (p z = false → (zs.take (i + 1)).find? p = none) := by
  have e : zs = zs.take i ++ (z :: zs.drop (i + 1)) := by
    obtain ⟨hl, rfl⟩ := List.getElem?_eq_some_iff.mp hz
    rw [← List.drop_eq_getElem_cons hl, List.take_append_drop]
  refine ⟨fun hp => ?_, fun hp => ?_⟩
  · rw [e, List.find?_append, h, List.find?_cons, hp]
    rfl
  · rw [List.take_add_one, hz, List.find?_append, h]
    show List.find? p [z] = none
    rw [List.find?_cons, hp]
    rfl
theorem ok_checkR {f CV : Addr} {fd : FuncData} (F : Fun K "_check_values" "_check_values" s__check_values f fd) (m_isinstance : mg "isinstance" = none) (m_int : mg "int" = none) (m_bool : mg "bool" = none) (m_BadValue : mg "BadValue" = some (.ref CV)) (M_V : Xe P w K mg base CV "value") : FnOk P w K mg base (L2.CX P w) 3 f fd ["values", "size"] (spVR K pCkA pCkF (pCkG CV)) := by
  refine fun_VR F sc__check_values (by decide) (fun ds h => by obtain ⟨_, _, rfl | rfl⟩ := h <;> rfl) (fun cdv A outer s H E ds hr h => ?_)
  obtain ⟨zs, n, h⟩ := id h
  have core : ∀ (d0 : PyData) (wi : TI) (tt : TT), (d0 = .list (zs.map .int) ∨ d0 = .tuple (zs.map .int)) → EvI K true true [.d d0, .d (.int n), .u] wi (zs.map .int) → (∀ z : Int, EvB K [.d d0, .d (.int n), .d (.int z)] tt (badV n z)) →
      SwE K none E (pCkG CV [d0, .int n]) [.d d0, .d (.int n), .u] 0 (tFor wi (gName 2) (tIfS tt (tRaiseN CV "value" (tVar 2) fun cls od _ H' => E cls od H') tNext)) (Fin fun d _ => pCkF [d0, .int n] d) := fun d0 wi tt hd0 hi ht => by
    have hds : ([d0, .int n] : List PyData) = [.list (zs.map .int), .int n] ∨ [d0, .int n] = [.tuple (zs.map .int), .int n] := by rcases hd0 with rfl | rfl <;> simp
    refine swe_for (vs := [2]) hi (fun i δ t' => (∃ a, δ = [.d d0, .d (.int n), a] ∧ a.adr = []) ∧ (zs.take i).find? (badV n) = none) ⟨⟨.u, rfl, rfl⟩, rfl⟩ (fun i d δ t' hd hI => ?_) (fun δ t' hI => ?_)
    · obtain ⟨⟨a, rfl, ha⟩, hb⟩ := hI
      rw [List.getElem?_map] at hd
      obtain ⟨z, hz, rfl⟩ := Option.map_eq_some_iff.mp hd
      obtain ⟨f1, f2⟩ := find_take hb hz
      refine ⟨_, fun q hq => own_put sl_adr q hq, tg_name (by simp), swe_if (ht z) (fun hc => swe_raise (ev_var rfl) ⟨zs, n, z, hds, f1 hc, rfl, rfl⟩) (fun hc => (sw_next ⟨⟨_, rfl, rfl⟩, f2 hc⟩).e)⟩
    · rw [List.length_map, List.take_length] at hI
      refine ⟨rfl, fun zs' n' h' => ?_⟩
      have e : zs' = zs ∧ n' = n := by
        rcases hd0 with rfl | rfl <;> rcases h' with h' | h' <;> simp only [List.cons.injEq, PyData.list.injEq, PyData.tuple.injEq, PyData.int.injEq, and_true, reduceCtorEq, false_and] at h'
        · exact ⟨(ints_inj2 h'.1).symm, h'.2.symm⟩
        · exact ⟨(ints_inj2 h'.1).symm, h'.2.symm⟩
      rw [e.1, e.2]
      exact hI.2
  rcases h with rfl | rfl
  · refine ⟨_, (pss_one (ps_for (passes_of rfl) rfl (pi_listK K (pv 0)) (pg_name (i := 2) sc__check_values.nd rfl (.inl rfl))
      (pss_one (ps_if (PW.pt (pw_or (pt_not (pt_val (pe_callB (call_isi1 (K := K)) (by rfl) m_isinstance (by decide +kernel) (pa_cons (pv 2) (pa_cons (pe_bltn (v := .ty "int") rfl m_int (by decide +kernel) rfl) pa_nil))))) (pw_or (pt_val (pe_callB (call_isi1 (K := K)) (by rfl) m_isinstance (by decide +kernel) (pa_cons (pv 2) (pa_cons (pe_bltn (v := .ty "bool") rfl m_bool (by decide +kernel) rfl) pa_nil)))) (pw_or1 (pt_not (pt_chain op_le op_lt pe_int (pv 2) (pv 1)))))))
      (pss_one (ps_raiseN M_V (hr.mono (by decide)) (by rfl) m_BadValue rfl (takes_of rfl rfl rfl rfl) (pv 2)))
      pss_nil)))), core _ _ _ (.inl rfl) (evi_list (ev_var rfl)) (fun z => ?_)⟩
    exact ((evb_or (a := !true) (b := false || !(decide (0 ≤ z) && decide (z < n))) (evb_not (evb_isi (lv := true) (z := z) (ev_var rfl) (by decide +kernel))) (fun _ => evb_or (a := false) (evb_isi (lv := true) (z := z) (ev_var rfl) (by decide +kernel)) (fun _ => evb_not (evb_T (lv := true) (ev_chain ev_int (ev_var rfl) (ev_var rfl) r2_le r2_lt))))).cast (by unfold badV; simp))
  · refine ⟨_, (pss_one (ps_for (passes_of rfl) rfl (pi_tupK K (pv 0)) (pg_name (i := 2) sc__check_values.nd rfl (.inl rfl))
      (pss_one (ps_if (PW.pt (pw_or (pt_not (pt_val (pe_callB (call_isi1 (K := K)) (by rfl) m_isinstance (by decide +kernel) (pa_cons (pv 2) (pa_cons (pe_bltn (v := .ty "int") rfl m_int (by decide +kernel) rfl) pa_nil))))) (pw_or (pt_val (pe_callB (call_isi1 (K := K)) (by rfl) m_isinstance (by decide +kernel) (pa_cons (pv 2) (pa_cons (pe_bltn (v := .ty "bool") rfl m_bool (by decide +kernel) rfl) pa_nil)))) (pw_or1 (pt_not (pt_chain op_le op_lt pe_int (pv 2) (pv 1)))))))
      (pss_one (ps_raiseN M_V (hr.mono (by decide)) (by rfl) m_BadValue rfl (takes_of rfl rfl rfl rfl) (pv 2)))
      pss_nil)))), core _ _ _ (.inr rfl) (evi_tup (ev_var rfl)) (fun z => ?_)⟩
    exact ((evb_or (a := !true) (b := false || !(decide (0 ≤ z) && decide (z < n))) (evb_not (evb_isi (lv := true) (z := z) (ev_var rfl) (by decide +kernel))) (fun _ => evb_or (a := false) (evb_isi (lv := true) (z := z) (ev_var rfl) (by decide +kernel)) (fun _ => evb_not (evb_T (lv := true) (ev_chain ev_int (ev_var rfl) (ev_var rfl) r2_le r2_lt))))).cast (by unfold badV; simp))
def pPiP : List PyData → Nat → Prop := fun ds n => ∃ os : List PyData, ds = [.list os] ∧ n = 1 ∧ 1 ≤ os.length ∧ os.length ≤ 1000
def pPiR : List PyData → PyData → Prop := fun ds d => ∃ os : List PyData, ds = [.list os] ∧ d ∈ os
abbrev s__law_pick : Stmt := topS 16
theorem sc__law_pick : FnScope ["pen", "options"] ["pen", "options"] (defScope s__law_pick) := ⟨rfl, rfl, rfl, by decide +kernel, rfl, by decide +kernel, by decide +kernel⟩
theorem ok_pickW {f : Addr} {fd : FuncData} (F : Fun K "_law_pick" "_law_pick" s__law_pick f fd) (m_len : mg "len" = none) (D_law_draw : Dn P w K mg base 1 "_law_draw" ["pen", "span"] spDraw) : FnOk P w K mg base CX0 2 f fd ["pen", "options"] (spW K pPiP pPiR) := by
  refine fun_W F sc__law_pick (by decide) (fun ds n h => by obtain ⟨_, rfl, _⟩ := h; rfl) (fun cdv A outer s H E p c ds t n hr h ht => ?_)
  obtain ⟨os, rfl, rfl, h1, h2⟩ := h
  refine ⟨_, (pss_one (ps_ret (pe_ix (ix_listK K) (pv 1) (pd D_law_draw (hr.mono (by decide)) (by rfl) (pa_cons (pv 0) (pa_cons (pe_callB (call_lenK K) (by rfl) m_len PySem.boot_len (pa_cons (pv 1) pa_nil)) pa_nil))) (fun _ _ => rfl)))), ?_⟩
  show Sw K _ [.v (.ref p), .d (.list os)] t _ _
  refine sw_retX (lv := true) (n := 1) (P := fun d => d ∈ os) ((ex_op (Ev.ex (ev_var (d := .list os) rfl)) (fun x hx => ex_draw1 rfl (s := (os.length : Nat)) (ev_cb (eva_cons (ev_var rfl) eva_nil) ra_len) (by omega) (lg_small (n := os.length) (by omega))) (fun x y hx hy => by
    subst hx
    obtain ⟨r, rfl, h3, h4⟩ := hy
    have hlt : r.toNat < os.length := by omega
    exact ⟨os[r.toNat], r2_ixI h3 (List.getElem?_eq_getElem hlt), List.getElem_mem hlt⟩)).imp (by omega) fun _ h => h) (by omega) (fun d hd => ⟨⟨os, rfl, hd⟩, Nat.le_refl _⟩)
def pGI (C : Addr) : List PyData → PyData → Prop := fun ds d => ∃ (n : Nat) (M : List (List Int)) (a b : Int), ds = [iD C (tbF M), .tuple [.int a, .int b]] ∧ Tbl n M ∧ n ≤ 100 ∧ OkV n a ∧ OkV n b ∧ d = .int (cel M a b)
def gNo : List PyData → Addr → Str → PyData → Prop := fun _ _ _ _ => False
abbrev s_Table___getitem__ : Stmt := inClass (topS 12) 3
theorem sc_Table___getitem__ : FnScope ["self", "at", "a", "b"] ["self", "at"] (defScope s_Table___getitem__) := ⟨rfl, rfl, rfl, by decide +kernel, rfl, by decide +kernel, by decide +kernel⟩
theorem ok_tget {f : Addr} {fd : FuncData} (F : Fun K "__getitem__" "Table.__getitem__" s_Table___getitem__ f fd) (TX : TxT K mg C) (D_check_values : Dn P w K mg base 1 "_check_values" ["values", "size"] (spV K pCk)) : FnOk P w K mg base (L2.CX P w) 2 f fd ["self", "at"] (spVX K (pGI C) gNo) := by
  refine F.okX sc_Table___getitem__ (fun vs H Q E h => ?_) (fun cdv A outer s H vs Q E hr h => ?_)
  · obtain ⟨Z, ds, al, hv, ⟨d, ⟨_, _, _, _, rfl, _⟩, _⟩ | ⟨_, _, _, h, _⟩⟩ := h
    · exact hv.len
    · exact h.elim
  · obtain ⟨Z, ds, al, hv, ⟨d, ⟨n, M, a, b, rfl, tb, hn, oa, ob, rfl⟩, q⟩ | ⟨_, _, _, h, _⟩⟩ := h
    · refine ⟨_, (pss_cons (ps_asg (pv 1) (pg_tupK K (pg_tup (n := 2) rfl (pgs_cons (pg_name (i := 2) sc_Table___getitem__.nd rfl (.inl rfl)) (pgs_cons (pg_name (i := 3) sc_Table___getitem__.nd rfl (.inl rfl)) pgs_nil)))))
    (pss_cons (ps_expr (pd D_check_values (hr.mono (by decide)) (by rfl) (pa_cons (pe_lst (pa_cons (pv 2) (pa_cons (pv 3) pa_nil))) (pa_cons (pe_fldK K (pv 0) rfl) pa_nil))))
    (pss_one (ps_ret (pe_ix (ix_listK K) (pe_ix (ix_listK K) (pe_fldK K (pv 0) rfl) (pv 2) (fun _ _ => rfl)) (pv 3) (fun _ _ => rfl)))))), ?_⟩
      refine sw_run (ps := ["self", "at"]) (ds := [iD C (tbF M), .tuple [.int a, .int b]]) (d := .int (cel M a b)) (K := K) ?_ al hv rfl (by decide) q (fun e => nomatch e)
      show Sw K none [.d (iD C (tbF M)), .d (.tuple [.int a, .int b]), .u, .u] 0 _ _
      refine sw_seq (sw_asgT (lv := true) (vs := [2, 3]) (ev_var rfl) (tg_tup (tgs_cons (tg_name (by simp)) (tgs_cons (tg_name (by simp)) tgs_nil (own_sub sl_adr _ _)) (own_sub sl_adr _ _)) rfl) (fun q hq => own_put sl_adr q (own_put sl_adr q hq)) ?_)
      show Sw K none [.d (iD C (tbF M)), .d (.tuple [.int a, .int b]), .d (.int a), .d (.int b)] 0 _ _
      refine sw_seq (sw_drop (lv := true) (d := .none) (ev_call (eva_cons (ev_lst (ds := [a, b].map .int) (by show EvA _ _ _ _ [_, _]; walk_at "ev") (by simp)) (eva_cons (ev_fld TX.cl TX.nS (ev_var rfl) (tbF_size M)) eva_nil)) ⟨[a, b], _, rfl, fun z hz => ?_, rfl⟩) ?_)
      · rw [tb.len]
        simp only [List.mem_cons, List.not_mem_nil, or_false] at hz
        rcases hz with rfl | rfl <;> assumption
      · exact sw_ret (lv := true) (ev_cell (ev_fld TX.cl TX.nR (ev_var (d := iD C (tbF M)) rfl) (tbF_rows M)) tb (ev_var rfl) oa (ev_var rfl) ob) rfl
    · exact h.elim
theorem okE_tbl {n : Nat} {M : List (List Int)} (t : Tbl n M) (hn : n ≤ 60) : OkE M := ⟨by rw [t.len]; omega, fun r hr => ⟨by rw [t.row r hr]; omega, fun z hz => by have := t.val r hr z hz; unfold OkV at this ⊢; omega⟩⟩
section
variable {lv : Bool} {δ : List SV} {te : TE} {i j : Nat}
theorem ev_tabT {M : List (List Int)} (ok : OkE M) (h : Ev K lv δ te (mD M)) (hi : δ[i]? = some .u) (hj : δ[j]? = some .u) (ij : i ≠ j) :
    Ev K lv δ (tM1 (rJoin K) (tC (.str "\n")) (tLc (iList K te) (gName i) tYes (tM1 (rJoin K) (tC (.str " ")) (tLc (iList K (tVar i)) (gName j) tYes (tCB rStrI (tCons (tVar j) tNil)) [j])) [i])) (.str (tabT M)) := by
  have li : i < δ.length := (List.getElem?_eq_some_iff.mp hi).1
  have lj : j < δ.length := (List.getElem?_eq_some_iff.mp hj).1
  unfold tabT
  refine ev_join ((ev_map (as := M) (dat := fun r => .list (r.map .int)) (fv := fun r => .str (rowT r)) (evi_list h) hi (by have := ok.1; omega) fun r hr => ?_).cast (by rw [List.map_map]; rfl)) ?_
  · have o := ok.2 r hr
    unfold rowT
    have h1 : (δ.set i (sl lv (.list (r.map .int))))[i]? = some (sl lv (.list (r.map .int))) := List.getElem?_set_self li
    have hr1 : Ev K lv (δ.set i (sl lv (.list (r.map .int)))) (tVar i) (.list (r.map .int)) := by
      cases lv with
      | true => exact ev_var h1
      | false => exact ev_varB h1
    refine ev_join ((ev_map (as := r) (dat := PyData.int) (fv := fun z => .str (nS z)) (evi_list hr1) (by rw [List.getElem?_set_ne ij]; exact hj) (by omega) fun z hz => ?_).cast (by rw [List.map_map]; rfl)) ?_
    · have h2 : ((δ.set i (sl lv (.list (r.map .int)))).set j (sl lv (.int z)))[j]? = some (sl lv (.int z)) := List.getElem?_set_self (by rw [List.length_set]; exact lj)
      have hz1 : Ev K lv ((δ.set i (sl lv (.list (r.map .int)))).set j (sl lv (.int z))) (tVar j) (.int z) := by
        cases lv with
        | true => exact ev_var h2
        | false => exact ev_varB h2
      have oz := o.2 z hz
      unfold OkV at oz
      exact ev_cb (eva_cons hz1 eva_nil) (ra_strI (Nat.lt_of_le_of_lt (Nat.log2_le_self z.natAbs) (by omega)))
    · have s1 := sum_le (l := (r.map nS).map (·.length)) (b := 2) fun x hx => by
        rw [List.map_map] at hx
        obtain ⟨z, hz, rfl⟩ := List.mem_map.mp hx
        exact nS_len (o.2 z hz)
      rw [List.length_map, List.length_map] at s1
      rw [List.length_map]
      have e : (" " : Str).length = 1 := rfl
      rw [e]
      have := o.1
      omega
  · have s1 := sum_le (l := (M.map rowT).map (·.length)) (b := 192) fun x hx => by
      rw [List.map_map] at hx
      obtain ⟨r, hr, rfl⟩ := List.mem_map.mp hx
      exact rowT_len (ok.2 r hr)
    rw [List.length_map, List.length_map] at s1
    rw [List.length_map]
    have e : ("\n" : Str).length = 1 := rfl
    rw [e]
    have := ok.1
    omega
end
def pTS (C : Addr) : List PyData → PyData → Prop := fun ds d => ∃ (n : Nat) (M : List (List Int)), ds = [iD C (tbF M)] ∧ Tbl n M ∧ n ≤ 60 ∧ d = .str (tabT M)
abbrev s_Table___str__ : Stmt := inClass (topS 12) 7
theorem sc_Table___str__ : FnScope ["self", "row", "entry"] ["self"] (defScope s_Table___str__) := ⟨rfl, rfl, rfl, by decide +kernel, rfl, by decide +kernel, by decide +kernel⟩
theorem ok_tstr {f : Addr} {fd : FuncData} (F : Fun K "__str__" "Table.__str__" s_Table___str__ f fd) (TX : TxT K mg C) (m_str : mg "str" = none) : FnOk P w K mg base CX0 1 f fd ["self"] (spV K (pTS C)) := by
  refine fun_V F sc_Table___str__ (by decide) (fun ds d h => by obtain ⟨_, _, rfl, _⟩ := h; rfl) (fun cdv A outer s H E ds d hr h => ?_)
  obtain ⟨n, M, rfl, tb, hn, rfl⟩ := h
  refine ⟨_, (pss_one (ps_ret (pe_joinK K pe_str (pe_lc (own := [("row", 1)]) rfl sc_Table___str__.nd (pi_listK K (pe_fldK K (pv 0) rfl)) (blkOk_by (by kernel_rfl)) (fun _ _ _ _ _ => (pg_name (i := 1) sc_Table___str__.nd rfl (.inl rfl))) (fun _ _ _ _ _ => pts_nil) (fun _ _ _ _ _ => (pe_joinK K pe_str (pe_lc (own := [("entry", 2)]) rfl sc_Table___str__.nd (pi_listK K (pv 1)) (blkOk_by (by kernel_rfl)) (fun _ _ _ _ _ => (pg_name (i := 2) sc_Table___str__.nd rfl (.inl rfl))) (fun _ _ _ _ _ => pts_nil) (fun _ _ _ _ _ => (pe_callTy call_strI (by rfl) m_str (by decide +kernel) (pa_cons (pv 2) pa_nil)))))))))), ?_⟩
  show Sw K none [.d (iD C (tbF M)), .u, .u] 0 _ _
  exact sw_ret (lv := true) (ev_tabT (okE_tbl tb hn) (ev_fld TX.cl TX.nR (ev_var rfl) (tbF_rows M)) rfl rfl (by decide)) rfl
def pRT : List PyData → PyData → Prop := fun ds d => ∃ (n : Nat) (M : List (List Int)), ds = [mD M] ∧ Tbl n M ∧ n ≤ 60 ∧ d = .str (tabT M)
abbrev s__law_rows_text : Stmt := topS 18
theorem sc__law_rows_text : FnScope ["rows", "line", "value"] ["rows"] (defScope s__law_rows_text) := ⟨rfl, rfl, rfl, by decide +kernel, rfl, by decide +kernel, by decide +kernel⟩
theorem ok_rowstext {f : Addr} {fd : FuncData} (F : Fun K "_law_rows_text" "_law_rows_text" s__law_rows_text f fd) (m_str : mg "str" = none) : FnOk P w K mg base CX0 1 f fd ["rows"] (spV K pRT) := by
  refine fun_V F sc__law_rows_text (by decide) (fun ds d h => by obtain ⟨_, _, rfl, _⟩ := h; rfl) (fun cdv A outer s H E ds d hr h => ?_)
  obtain ⟨n, M, rfl, tb, hn, rfl⟩ := h
  refine ⟨_, (pss_one (ps_ret (pe_joinK K pe_str (pe_lc (own := [("line", 1)]) rfl sc__law_rows_text.nd (pi_listK K (pv 0)) (blkOk_by (by kernel_rfl)) (fun _ _ _ _ _ => (pg_name (i := 1) sc__law_rows_text.nd rfl (.inl rfl))) (fun _ _ _ _ _ => pts_nil) (fun _ _ _ _ _ => (pe_joinK K pe_str (pe_lc (own := [("value", 2)]) rfl sc__law_rows_text.nd (pi_listK K (pv 1)) (blkOk_by (by kernel_rfl)) (fun _ _ _ _ _ => (pg_name (i := 2) sc__law_rows_text.nd rfl (.inl rfl))) (fun _ _ _ _ _ => pts_nil) (fun _ _ _ _ _ => (pe_callTy call_strI (by rfl) m_str (by decide +kernel) (pa_cons (pv 2) pa_nil)))))))))), ?_⟩
  show Sw K none [.d (mD M), .u, .u] 0 _ _
  exact sw_ret (lv := true) (ev_tabT (okE_tbl tb hn) (ev_var rfl) rfl rfl (by decide)) rfl
theorem badV_all {n : Nat} {zs : List Int} (h : zs.find? (badV n) = none) : ∀ x ∈ zs, OkV n x := fun x hx => by
  have := List.find?_eq_none.mp h x hx
  unfold badV at this
  simp at this
  exact ⟨this.1, this.2⟩
theorem badV_none {n : Nat} {zs : List Int} (h : ∀ x ∈ zs, OkV n x) : zs.find? (badV n) = none := List.find?_eq_none.mpr fun x hx => by
  have := h x hx
  unfold OkV at this
  unfold badV
  simp [this]
def pROT (C : Addr) : List PyData → PyData → Prop := fun ds d => ∃ (n : Nat) (M : List (List Int)), ds = [iD C (tbF M)] ∧ Tbl n M ∧ n ≤ 60 ∧ d = mD M
abbrev s__law_rows_of_table : Stmt := topS 17
theorem sc__law_rows_of_table : FnScope ["made", "a", "b"] ["made"] (defScope s__law_rows_of_table) := ⟨rfl, rfl, rfl, by decide +kernel, rfl, by decide +kernel, by decide +kernel⟩
theorem ok_rowsof {f : Addr} {fd : FuncData} (F : Fun K "_law_rows_of_table" "_law_rows_of_table" s__law_rows_of_table f fd) (TX : TxT K mg C) (m_range : mg "range" = none) (M_get : Ge P w K mg base 2 C ["self", "at"] (spVX K (pGI C) gNo)) : FnOk P w K mg base CX0 4 f fd ["made"] (spV K (pROT C)) := by
  refine fun_V F sc__law_rows_of_table (by decide) (fun ds d h => by obtain ⟨_, _, rfl, _⟩ := h; rfl) (fun cdv A outer s H E ds d hr h => ?_)
  obtain ⟨n, M, rfl, tb, hn, rfl⟩ := h
  refine ⟨_, (pss_one (ps_ret (pe_lc (own := [("a", 1)]) rfl sc__law_rows_of_table.nd (pi_range1 rfl m_range (pa_cons (pe_fldK K (pv 0) rfl) pa_nil)) (blkOk_by (by kernel_rfl)) (fun _ _ _ _ _ => (pg_name (i := 1) sc__law_rows_of_table.nd rfl (.inr rfl))) (fun _ _ _ _ _ => pts_nil) (fun _ _ _ _ _ => (pe_lc (own := [("b", 2)]) rfl sc__law_rows_of_table.nd (pi_range1 rfl m_range (pa_cons (pe_fldK K (pv 0) rfl) pa_nil)) (blkOk_by (by kernel_rfl)) (fun _ _ _ _ _ => (pg_name (i := 2) sc__law_rows_of_table.nd rfl (.inl rfl))) (fun _ _ _ _ _ => pts_nil) (fun _ _ _ _ _ => (pe_ixOwn (E := E0) M_get (hr.mono (by decide)) passL (pv 0) (pe_tup (pa_cons (pv 1) (pa_cons (pv 2) pa_nil))) (fun _ _ => rfl)))))))), ?_⟩
  show Sw K none [.d (iD C (tbF M)), .u, .u] 0 _ _
  have rg : ∀ {δ : List SV}, δ[0]? = some (.d (iD C (tbF M))) → EvI K true true δ (iRng1 (tCons (tFld K (tVar 0) "size") tNil)) ((span n).map .int) := fun {δ} h => by
    have := evi_range1 (K := K) (lv := true) (st := true) (δ := δ) (n := (M.length : Int)) (eva_cons (ev_fld TX.cl TX.nS (ev_var h) (tbF_size M)) eva_nil) (by rw [tb.len]; omega) (by rw [tb.len]; omega)
    rwa [Int.toNat_natCast, rngD_span, tb.len] at this
  refine sw_ret (lv := true) ((ev_map (as := span n) (dat := PyData.int) (fv := fun a => .list (((span n).map fun b => cel M a b).map .int)) (rg rfl) rfl (by rw [span_len]; omega) fun a ha => ?_).cast ?_) rfl
  · have oa := mem_span.mp ha
    exact ev_mapI (rg rfl) rfl (by omega) fun b ob => ev_op (ev_var rfl) (ev_tup (ds := [.int a, .int b]) (by walk_at "ev") (by simp)) (r2_ixOwn ⟨n, M, a, b, rfl, tb, by omega, oa, ob, rfl⟩)
  · show PyData.list _ = PyData.list _
    rw [rows_data tb]
    refine congrArg _ (List.map_congr_left fun a ha => ?_)
    show _ = rowD M a
    unfold rowD
    rw [row_span tb (mem_span.mp ha)]

/-! tables changed, with values that are none -/
def spTSX (K : PySem.W.Frag) (C CV : Addr) : Sp := fun vs H Q E => ∃ (o q dx A : Addr) (rs : List Addr) (M : List (List Int)) (a b z : Int) (n : Nat), vs = [.ref o, .ref q, .int z] ∧ H o = some (.ins C dx (tFl (M.length : Nat) (.ref A))) ∧ MatAt H A rs M ∧ Tbl n M ∧ n ≤ 100 ∧ SqT K H q [.int a, .int b] ∧
  (OkV n a → OkV n b → OkV n z → ∀ (r' : Addr) H', rs[a.toNat]? = some r' → (∀ c u, H c = some u → c ≠ r' → H' c = some u) → H' r' = some (.lst (((rowOf M a).set b.toNat z).map V.int)) → Q .non H') ∧
  ∀ v, [a, b, z].find? (badV n) = some v → ∀ dd H', H dd = none → Same H H' → H' dd = some (.xd [(("value" : Str), V.int v)]) → E (.ref CV) (some dd) H'
abbrev s_Table___setitem__ : Stmt := inClass (topS 12) 4
theorem sc_Table___setitem__ : FnScope ["self", "at", "worth", "a", "b"] ["self", "at", "worth"] (defScope s_Table___setitem__) := ⟨rfl, rfl, rfl, by decide +kernel, rfl, by decide +kernel, by decide +kernel⟩
theorem ok_tset {f : Addr} {fd : FuncData} (F : Fun K "__setitem__" "Table.__setitem__" s_Table___setitem__ f fd) (TX : TxT K mg C) (D_check_values : De P w K mg base 3 "_check_values" ["values", "size"] (spVR K pCkA pCkF (pCkG CV))) : FnOk P w K mg base (L2.CX P w) 4 f fd ["self", "at", "worth"] (spTSX K C CV) := by
  refine F.okX sc_Table___setitem__ (fun vs H Q E h => ?_) (fun cdv A outer s H vs Q E hr h => ?_)
  · obtain ⟨p, q, dx, R, rs, M, a, b, z, n, rfl, _⟩ := h
    rfl
  · obtain ⟨p, q, dx, R, rs, M, a, b, z, n, rfl, hp, hm, tb, hn, hq, kOk, kBad⟩ := h
    refine ⟨_, (pss_cons (ps_asg (pv 1) (pg_tupK K (pg_tup (n := 2) rfl (pgs_cons (pg_name (i := 3) sc_Table___setitem__.nd rfl (.inl rfl)) (pgs_cons (pg_name (i := 4) sc_Table___setitem__.nd rfl (.inl rfl)) pgs_nil)))))
    (pss_cons (ps_expr (pde (E := E) D_check_values (hr.mono (by decide)) (by rfl) (passes_call (takes_of rfl rfl rfl rfl) fun _ _ _ _ h => h) (pa_cons (pe_lst (pa_cons (pv 3) (pa_cons (pv 4) (pa_cons (pv 2) pa_nil)))) (pa_cons (pe_fldK K (pv 0) rfl) pa_nil))))
    (pss_one (ps_asg (pv 2) (pg_sub (pe_ix (ix_listK K) (pe_fldK K (pv 0) rfl) (pv 3) (fun _ _ => rfl)) (pv 4) set_list))))), ?_⟩
    show tSeq _ _ _ [some (.ref p), some (.ref q), some (.int z), none, none] H
    refine seqi fun k0 hk0 => ?_
    walk_at "rd"
    refine ⟨_, hq, rfl, _, _, rfl, _, _, rfl, rfl, ?_⟩
    subst hk0
    refine seqi fun k0 hk0 => ?_
    walk_at "rd"
    refine ⟨by show 3 ≤ sizeLine; decide, fun l hl => ?_⟩
    have lp : p ≠ l := fun w => by rw [w, hl] at hp; cases hp
    have h0p : upd H l (.lst [.int a, .int b, .int z]) p = some (.ins C dx (tFl (M.length : Nat) (.ref R))) := by rw [upd_ne lp]; exact hp
    have nl : hid (fun _ => false) (upd H l (.lst [.int a, .int b, .int z])) l = some (.lst [.int a, .int b, .int z]) := hid_in upd_same rfl
    have inj : ∀ {zs : List Int} {m : Int}, (([.list ([a, b, z].map .int), .int (M.length : Nat)] : List PyData) = [.list (zs.map .int), .int m] ∨ ([.list ([a, b, z].map .int), .int (M.length : Nat)] : List PyData) = [.tuple (zs.map .int), .int m]) → zs = [a, b, z] ∧ m = (n : Nat) := fun {zs m} h1 => by
      rcases h1 with h1 | h1
      · have e1 := ints_inj2 (PyData.list.inj (List.cons.inj h1).1)
        have e2 : ((M.length : Nat) : Int) = m := PyData.int.inj (List.cons.inj (List.cons.inj h1).2).1
        exact ⟨e1.symm, by rw [← e2, tb.len]⟩
      · exact PyData.noConfusion (List.cons.inj h1).1
    refine ⟨C, dx, _, h0p, TX.cl, TX.nS, _, tFl_size _ _, fun _ => false, [.list ([a, b, z].map .int), .int (M.length : Nat)], (fun a h => nomatch h), .cons (.lst nl (.cons (.int _) (.cons (.int _) (.cons (.int _) .nil)))) (.cons (.int _) .nil), ⟨[a, b, z], _, .inl rfl⟩, fun v d H1 e1 hd hv => ?_, fun CE fs us dd H1 hg hdd e1 hx hu => ?_⟩
    · have e : Same H H1 := (same_new hl).trans e1
      have hall := hd.2 [a, b, z] _ (.inl rfl)
      rw [tb.len] at hall
      have hok := badV_all hall
      have oa := hok a (by simp)
      have ob := hok b (by simp)
      have oz := hok z (by simp)
      obtain ⟨a, rfl⟩ : ∃ m : Nat, a = (m : Int) := ⟨a.toNat, (okv_nat oa).2.symm⟩
      obtain ⟨b, rfl⟩ : ∃ m : Nat, b = (m : Int) := ⟨b.toNat, (okv_nat ob).2.symm⟩
      have k := kOk oa ob oz
      simp only [Int.toNat_natCast] at k
      have oa2 : a < n := by unfold OkV at oa; omega
      have ob2 : b < n := by unfold OkV at ob; omega
      have h1p := e _ _ hp
      have h1m := hm.mono fun a o _ h => e a o h
      have hlt : a < rs.length := by rw [hm.2.1, tb.len]; exact oa2
      have hr' : rs[a]? = some rs[a] := List.getElem?_eq_getElem hlt
      have ta := (tb.at oa).1
      rw [Int.toNat_natCast] at ta
      have hrow := h1m.2.2 _ _ _ hr' ta
      subst hk0
      walk_at "rd"
      unfold gSub
      walk_at "rd"
      refine ⟨C, dx, _, h1p, TX.cl, TX.nR, _, tFl_rows _ _, ?_⟩
      refine ⟨R, rfl, _, .inl (.inl h1m.1), .ref rs[a], atI_nat (by rw [List.getElem?_map, hr']; rfl), ?_⟩
      have lrow : (rowOf M (a : Int)).length = n := tb.len_row oa
      have nmut : ∀ c o, H c = some o → c ≠ rs[a] → upd H1 rs[a] (.lst (((rowOf M (a : Int)).map V.int).set b (.int z))) c = some o := fun c o hc ne => by rw [upd_ne ne]; exact e _ _ hc
      refine ⟨rs[a], _, _, b, rfl, rfl, hrow, ?_, k rs[a] _ hr' nmut (by rw [upd_same, List.map_set])⟩
      unfold ixN
      rw [if_pos (by omega), if_pos (by rw [List.length_map]; omega)]
      simp
    · obtain ⟨zs, m, v, h1, h2, rfl, rfl⟩ := hg
      obtain ⟨rfl, rfl⟩ := inj h1
      obtain ⟨u, rfl, hu8⟩ := Dvs.one hu
      obtain rfl : u = .int v := Dv.num hu8
      have hdd' : H dd = none := by
        by_cases w : dd = l
        · rw [w]; exact hl
        · rw [upd_ne w] at hdd; exact hdd
      exact kBad v h2 dd H1 hdd' ((same_new hl).trans e1) hx
theorem FnOk.or {k : Nat} {f : Addr} {fd : FuncData} {ps : List Str} {sp sp' : Sp} {CX : CXT} (F : FnOk P w K mg base CX k f fd ps sp) (G : FnOk P w K mg base CX k f fd ps sp') : FnOk P w K mg base CX k f fd ps (fun vs H Q E => sp vs H Q E ∨ sp' vs H Q E) :=
  ⟨fun vs H Q E h => h.elim (F.len vs H Q E) (G.len vs H Q E), fun A outer s H args us vs Q E hr he hb hv h => h.elim (F.run A outer s H args us vs Q E hr he hb hv) (G.run A outer s H args us vs Q E hr he hb hv)⟩
theorem FnOk.cx {k : Nat} {f : Addr} {fd : FuncData} {ps : List Str} {sp : Sp} (F : FnOk P w K mg base CX0 k f fd ps sp) : FnOk P w K mg base (L2.CX P w) k f fd ps sp :=
  ⟨F.len, fun A outer s H args us vs Q E hr he hb hv h => codeAny_mono (F.run A outer s H args us vs Q E hr he hb hv h) fun r s' hq => by
    cases r with
    | error e => exact (show False from hq).elim
    | ok fl =>
      cases fl with
      | ret u => exact hq
      | next => exact False.elim hq
      | brk => exact False.elim hq
      | cont => exact False.elim hq⟩
def spTIB (C CS : Addr) : Sp := fun vs H Q E => ∃ (p dx : Addr) (n : Int), vs = [.ref p, .int n] ∧ H p = some (.ins C dx []) ∧ ¬(1 ≤ n ∧ n ≤ 60) ∧ ∀ dd H', H dd = none → Same H H' → H' dd = some (.xd [(("size" : Str), V.int n)]) → E (.ref CS) (some dd) H'
def spTNR (C CS : Addr) : Sp := fun vs H Q E => spTN C vs H Q E ∨ spTIB C CS vs H Q E
theorem ok_tinitBad {f : Addr} {fd : FuncData} (F : Fun K "__init__" "Table.__init__" s_Table___init__ f fd) (tG : Tok) (m__GREATEST_SIZE : mg "_GREATEST_SIZE" = some (.int 60 tG)) (m_range : mg "range" = none) (m_BadSize : mg "BadSize" = some (.ref CS)) (M_S : Xe P w K mg base CS "size") (TX : TxT K mg C) : FnOk P w K mg base (L2.CX P w) 3 f fd ["self", "size"] (spTIB C CS) := by
  refine F.okX sc_Table___init__ (fun vs H Q E h => ?_) (fun cdv A outer s H vs Q E hr h => ?_)
  · obtain ⟨p, dx, n, rfl, _⟩ := h
    rfl
  · obtain ⟨p, dx, n, rfl, hp, hn, q⟩ := h
    let _GREATEST_SIZE : Int := 60
    refine ⟨_, (pss_cons (ps_if (pt_not (pt_chain op_le op_le pe_int (pv 1) (pe_glob rfl m__GREATEST_SIZE (v := .int _GREATEST_SIZE) ⟨_, rfl⟩)))
      (pss_one (ps_raiseN M_S (hr.mono (by decide)) (by rfl) m_BadSize rfl (takes_of rfl rfl rfl rfl) (pv 1)))
      pss_nil)
    (pss_cons (ps_fldK K (pv 0) (pv 1) rfl)
    (pss_one (ps_fldK K (pv 0) (pe_lc (own := [("_", 2)]) rfl sc_Table___init__.nd (pi_range1 rfl m_range (pa_cons (pv 1) pa_nil)) (blkOk_by (by kernel_rfl)) (fun _ _ _ _ _ => (pg_name (i := 2) sc_Table___init__.nd rfl (.inl rfl))) (fun _ _ _ _ _ => pts_nil) (fun _ _ _ _ _ => (pe_op op_rep (pe_lst (pa_cons pe_int pa_nil)) (pv 1)))) rfl)))), ?_⟩
    show tSeq _ _ _ [some (.ref p), some (.int n), none] H
    refine seqi fun k0 hk0 => ?_
    have rel : ∀ H : Hp, Rel K (fun _ => false) H [some (.ref p), some (.int n), none] [.v (.ref p), .d (.int n), .u] := fun H => ⟨rfl, fun i s hi => by
      match i, hi with
      | 0, rfl => rfl
      | 1, rfl => exact ⟨_, rfl, .int _⟩
      | 2, rfl => trivial
      | _ + 3, h => simp at h, List.nodup_nil, fun q hq => nomatch hq⟩
    have al : ∀ H : Hp, Al (fun _ => false) H := fun H a h => nomatch h
    have tst : EvB K [.v (.ref p), .d (.int n), .u] (tNot (tTest (tChain (rI0 fun i j => .bl (decide (i ≤ j))) (rI0 fun i j => .bl (decide (i ≤ j))) (tC (.int 1)) (tVar 1) (tC (.int 60))))) true := (evb_not (evb_T (lv := true) (ev_chain ev_int (ev_var rfl) ev_int r2_le r2_le))).cast (by simp; omega)
    refine tst _ H _ (al H) (rel H) _ fun H0 e0 => ?_
    rw [if_pos rfl]
    exact raise_var rfl fun d H' hd e hx => q d H' ((Frm.of (M := fun _ => false) e0).none hd) (e0.trans e) hx
end
end Fp

namespace Fp
open PySem PySem.Spec PyProof.Rows L2 Fd
local macro_rules | `(tactic| walk_at "rd") => `(tactic| simp only [cxK, cxKn, tRet, tRetN, rIntI, rIntB, rLenL, rListL, rListT, rAbs, tDisp, tPairs, tC, tCB, tCons, tNil, tSl, tVar, tNoPart, tPart, rSlL, tOp, tAsg, gName, tIfS, tDrop, tTest, tAnd, tOr, Evl.tCut, tNot, tB, rI0, rI, rIxL, rIxT, rIxD, tDGet, sDPut, tLst, tTup, tBM, tBM0, tPar, rAppend, rPopAt, rPop, rExtend, rTupL, tCall, tNext, rAll, rOwnIn, rOwn2, rCat, lc_iL, lc_iT, lc_iK, lc_iR, lc_iE, fr_iL, fr_iT, fr_iR, tYes, rIn, rEq, rNe, gTup, gCons, gNil, wipe, tMeth, tFld, sFld, tMake, tProp, tIf, tAndV, tOrV, tNotV, tTru, rIsi, rSum, tRevL, rU, tUn, rIxS, iEnum, if_true, if_false, Bool.false_eq_true, List.map_cons, List.map_nil, List.nil_append, List.append_nil, List.cons_append, List.getElem?_cons_zero, List.getElem?_cons_succ, Option.some.injEq, exists_and_left, exists_eq_left', exists_eq_left, List.cons.injEq, and_true, true_and, V.ref.injEq, V.int.injEq, V.str.injEq, V.bl.injEq, List.set_cons_zero, List.set_cons_succ])
local macro_rules | `(tactic| walk_at "ev") => `(tactic| (repeat' (first | (with_reducible first | exact ev_int | exact ev_str | exact ev_bl | exact ev_non | exact eva_nil | apply eva_cons | exact r2_add | exact r2_sub | exact r2_lt | exact r2_le | exact r2_gt | exact r2_ge | exact r2_eqI | exact r2_neI | exact r2_eqS | exact r2_neS | exact ra_len | exact ra_intI | exact ra_list | apply ev_op | apply ev_cb | apply evb_T (lv := true) | apply evb_B (lv := true) | apply evb_not) | ((with_reducible apply ev_var); exact rfl))))
section
variable {K : PySem.W.Frag} {P : Program} {w : World} {base : Heap} {mg : Str → Option Value} {C FE CT CV CS : Addr}
def TL26 (CV CS : Addr) : List (Addr × List Str × Str) := [(CV, ["value"], "value"), (CS, ["size"], "size")]
open ClX in
abbrev s__law_tried : Stmt := topS 19
theorem sc__law_tried : FnScope ["call", "found", "e"] ["call"] (defScope s__law_tried) := ⟨rfl, rfl, rfl, by decide +kernel, rfl, by decide +kernel, by decide +kernel⟩
open ClX in
theorem ok_tried {f CV CS : Addr} {fd : FuncData} (F : Fun K "_law_tried" "_law_tried" s__law_tried f fd) (G : EFam K FE [CV, CS]) (hg : mg "_law_tried" = some (.ref f)) (hk : PySem.W.keepIn K (.ref f) = true) (hb : Binds K fd ["call"] [])
    (eVV : PySem.W.exmOne K (.ref CV) (.ref CV) = some true) (eVS : PySem.W.exmOne K (.ref CV) (.ref CS) = some false) (eSS : PySem.W.exmOne K (.ref CS) (.ref CS) = some true)
    (nV : PySem.W.findIn K (.ref CV) "value" = some none) (nS : PySem.W.findIn K (.ref CS) "size" = some none) (nVS : CV ≠ CS)
    (m_BadValue : mg "BadValue" = some (.ref CV)) (m_BadSize : mg "BadSize" = some (.ref CS)) (m_FoldError : mg "FoldError" = some (.ref FE)) (m_isinstance : mg "isinstance" = none) :
    LcOk P w K mg base "_law_tried" (TTd (TL26 CV CS)) := by
  obtain ⟨oc, od, kV, doc, pm, an, cdv, ct, osl, rfl, lk, hcd⟩ := F.ex
  refine ⟨f, oc, od, osl, _, _, _, _, kV, doc, pm, cdv, ct, an, ["call", "found", "e"], "call", hg, hk, lk, hcd, hb, sc__law_tried, rfl, .inl rfl, by decide, by decide, fun X q h1 h2 h3 h4 h5 => ?_⟩
  subst h1 h2 h3 h4 h5
  intro fa c' s H Q tl act hc h
  refine ⟨_, pss_cons (ps_try_cl (X := (cxOf C8.CX0 X.prog X.w X.K X.mg X.base ["call", "found", "e"] "_law_tried" (defScope s__law_tried) f cdv X.A X.stack s H C8.E0).nox)
      (tb := fun W D σ H => ∃ Ech : XK, (∀ cls d (σ' : L2.St) H', Ech cls d H' → σ'.length = 3 → W cls d σ' H') ∧ tAsg (fun σZ HZ Q => σZ[0]? = some (some (.ref fa)) ∧ HZ c' = some (LamX.CodeO c' q) ∧ tl Ech HZ Q) (gName 1) D σ H)
      rfl rfl sc__law_tried.nd takes0 (fun W pn xe tk _ => ?_)
      (.cons (i := 2) (c := .ref CS) rfl rfl ⟨rfl, by decide, .inl m_BadSize⟩ (fun a oe cls d pn hz hf => pss_one (ps_ret (pe_tup (pa_cons pe_str (pa_cons (pe_xf (C := CS) (G.ec CS (by simp)).xf nS hz hf (pv 2)) (pa_cons (pe_and (pe_callB (call_isX (K := X.K) hz hf) (by rfl) m_isinstance (by decide +kernel) (pa_cons (pv 2) (pa_cons (pe_glob rfl m_FoldError (v := .ref FE) rfl) pa_nil))) (pe_one (pe_not (pe_callB (call_isX (K := X.K) hz hf) (by rfl) m_isinstance (by decide +kernel) (pa_cons (pv 2) (pa_cons (pe_glob rfl m_BadValue (v := .ref CV) rfl) pa_nil)))))) pa_nil))))))
      (.cons (i := 2) (c := .ref CV) rfl rfl ⟨rfl, by decide, .inl m_BadValue⟩ (fun a oe cls d pn hz hf => pss_one (ps_ret (pe_tup (pa_cons pe_str (pa_cons (pe_xf (C := CV) (G.ec CV (by simp)).xf nV hz hf (pv 2)) (pa_cons (pe_and (pe_callB (call_isX (K := X.K) hz hf) (by rfl) m_isinstance (by decide +kernel) (pa_cons (pv 2) (pa_cons (pe_glob rfl m_FoldError (v := .ref FE) rfl) pa_nil))) (pe_one (pe_not (pe_callB (call_isX (K := X.K) hz hf) (by rfl) m_isinstance (by decide +kernel) (pa_cons (pv 2) (pa_cons (pe_glob rfl m_BadSize (v := .ref CS) rfl) pa_nil)))))) pa_nil)))))) .nil)))
    (pss_one (ps_ret (pv 1))), ?_⟩
  · exact pss_ex fun Ech hW => pss_one (ps_set (i := 1) sc__law_tried.nd rfl (.inl rfl) (act _ pn xe Ech _ _ (takes_len tk) fun cls d σ' H' h1 h2 => hW cls d σ' H' h1 h2))
  · show tSeq _ _ _ [some (.ref fa), none, none] H
    refine seqi fun k0 hk0 => ?_
    have exV := G.exc (C := CV) (by simp)
    have exS := G.exc (C := CS) (by simp)
    have i1 : PySem.W.kitOne X.K (.ref CV) (.ref CS) = some false := by
      rw [G.is (by simp) (by simp), decide_eq_false nVS]
    have i2 : PySem.W.kitOne X.K (.ref CS) (.ref CV) = some false := by
      rw [G.is (by simp) (by simp), decide_eq_false nVS.symm]
    refine ⟨TryE (TL26 CV CS) Q, fun cls d σ' H' he hlen => ?_, rfl, hc, ?_⟩
    · obtain ⟨C, fs, nm, vs, dd, hL, rfl, rfl, hvs, hd, hQ⟩ := he
      have hs1 : ∀ a : Addr, (σ'.set 2 (some (.ref a)))[2]? = some (some (.ref a)) := fun a => List.getElem?_set_self (by omega)
      have hdd : ∀ dd', (some dd : Option Addr) = some dd' → ∃ fs, H' dd' = some (.xd fs) := fun dd' e => by cases e; exact ⟨_, hd⟩
      simp only [TL26, List.mem_cons, List.not_mem_nil, or_false, Prod.mk.injEq] at hL
      rcases hL with ⟨rfl, rfl, rfl⟩ | ⟨rfl, rfl, rfl⟩
      · obtain ⟨v, rfl⟩ : ∃ v, vs = [v] := by
          match vs, hvs with
          | [v], _ => exact ⟨v, rfl⟩
        refine ⟨false, eVS, fun z => absurd z (by decide), fun _ => ⟨true, eVV, fun _ a ha => ?_, fun z => absurd z (by decide)⟩⟩
        dsimp only
        walk_at "rd"
        refine ⟨_, hs1 a, ?_⟩
        refine ⟨rfl, rfl, dd, _, v, rfl, hd, rfl, .ref a, hs1 a, ?_⟩
        refine ⟨.ref FE, .ref FE, true, C, rfl, rfl, fun u r => r, G.isF (by simp), exV, hdd, true, rfl, iteT ?_⟩
        refine ⟨.ref a, hs1 a, ?_⟩
        refine ⟨.ref CS, .ref CS, false, C, rfl, rfl, fun u r => r, i1, exV, hdd, false, rfl, ?_⟩
        exact ⟨Nat.le_of_lt (small1000 (show 3 ≤ 1000 by decide)), fun p hp => hQ p hp⟩
      · obtain ⟨v, rfl⟩ : ∃ v, vs = [v] := by
          match vs, hvs with
          | [v], _ => exact ⟨v, rfl⟩
        refine ⟨true, eSS, fun _ a ha => ?_, fun z => absurd z (by decide)⟩
        dsimp only
        walk_at "rd"
        refine ⟨_, hs1 a, ?_⟩
        refine ⟨rfl, rfl, dd, _, v, rfl, hd, rfl, .ref a, hs1 a, ?_⟩
        refine ⟨.ref FE, .ref FE, true, C, rfl, rfl, fun u r => r, G.isF (by simp), exS, hdd, true, rfl, iteT ?_⟩
        refine ⟨.ref a, hs1 a, ?_⟩
        refine ⟨.ref CV, .ref CV, false, C, rfl, rfl, fun u r => r, i2, exS, hdd, false, rfl, ?_⟩
        exact ⟨Nat.le_of_lt (small1000 (show 3 ≤ 1000 by decide)), fun p hp => hQ p hp⟩
    · subst hk0
      exact h
end
end Fp

namespace Fp
open PySem PySem.Spec PyProof.Rows L2 Fd
local macro_rules | `(tactic| walk_at "rd") => `(tactic| simp only [cxK, cxKn, tRet, tRetN, rIntI, rIntB, rLenL, rListL, rListT, rAbs, tDisp, tPairs, tC, tCB, tCons, tNil, tSl, tVar, tNoPart, tPart, rSlL, tOp, tAsg, gName, tIfS, tDrop, tTest, tAnd, tOr, Evl.tCut, tNot, tB, rI0, rI, rIxL, rIxT, rIxD, tDGet, sDPut, tLst, tTup, tBM, tBM0, tPar, rAppend, rPopAt, rPop, rExtend, rTupL, tCall, tNext, rAll, rOwnIn, rOwn2, rCat, lc_iL, lc_iT, lc_iK, lc_iR, lc_iE, fr_iL, fr_iT, fr_iR, tYes, rIn, rEq, rNe, gTup, gCons, gNil, wipe, tMeth, tFld, sFld, tMake, tProp, tIf, tAndV, tOrV, tNotV, tTru, rIsi, rSum, tRevL, rU, tUn, rIxS, iEnum, if_true, if_false, Bool.false_eq_true, List.map_cons, List.map_nil, List.nil_append, List.append_nil, List.cons_append, List.getElem?_cons_zero, List.getElem?_cons_succ, Option.some.injEq, exists_and_left, exists_eq_left', exists_eq_left, List.cons.injEq, and_true, true_and, V.ref.injEq, V.int.injEq, V.str.injEq, V.bl.injEq, List.set_cons_zero, List.set_cons_succ])
local macro_rules | `(tactic| walk_at "ev") => `(tactic| (repeat' (first | (with_reducible first | exact ev_int | exact ev_str | exact ev_bl | exact ev_non | exact eva_nil | apply eva_cons | exact r2_add | exact r2_sub | exact r2_lt | exact r2_le | exact r2_gt | exact r2_ge | exact r2_eqI | exact r2_neI | exact r2_eqS | exact r2_neS | exact ra_len | exact ra_intI | exact ra_list | apply ev_op | apply ev_cb | apply evb_T (lv := true) | apply evb_B (lv := true) | apply evb_not) | ((with_reducible apply ev_var); exact rfl))))
section
variable {K : PySem.W.Frag} {P : Program} {w : World} {base : Heap} {mg : Str → Option Value} {C FE CT CV CS : Addr}
abbrev s__law_of_right : Stmt := topS 21
theorem sc__law_of_right : FnScope ["pen", "size", "k", "found", "places", "rows", "_law_operation", "base", "step", "wrong", "place", "a", "b"] ["pen", "size"] (defScope s__law_of_right) := ⟨rfl, rfl, rfl, by decide +kernel, rfl, by decide +kernel, by decide +kernel⟩
abbrev s_op : Stmt := (defBody s__law_of_right).getD 3 (.Pass ⟨0, 0, 0, 0⟩)
abbrev mkOp (cl : List (Str × Addr)) (c' : Addr) : NdefX.NF := NdefX.NF.of s_op "_law_operation" ("_law_of_right" ++ ".<locals>." ++ "_law_operation") cl c'
abbrev frOp : List Str := ["base", "size", "step", "wrong"]
theorem op_free : ∀ y ∈ (C8.fnScope s_op).names, y.2 = .free → (defScope s__law_of_right).names.lookup y.1 = some .cell ∨ (defScope s__law_of_right).names.lookup y.1 = some .free := NdefX.ndef_free (fr := frOp) (by decide +kernel)
theorem op_fr : ∀ y ∈ frOp, (y, NameKind.free) ∈ (C8.fnScope s_op).names := NdefX.ndef_fr (sc := defScope s__law_of_right) (by decide +kernel)
/-- what the law's operation gives -/
def opV (es : EsT) (ba sz st : Int) (a b : Int) : Int := (lkT es (key2 a b)).getD ((a * st + b + ba) % sz)
def spOp : List (Option V) → Sp := fun ws vs H Q _ => ∃ (d : Addr) (es : EsT) (ba sz st a b : Int), ws = [some (.int ba), some (.int sz), some (.int st), some (.ref d)] ∧ vs = [.int a, .int b] ∧ H d = some (.dT (dtV es)) ∧ 0 < sz ∧ 0 ≤ a ∧ a < 100 ∧ ∀ H', Same H H' → Q (.int (opV es ba sz st a b)) H'
theorem sc_op : NdefX.NScope ["a", "b", "base", "size", "step", "wrong"] ["a", "b"] frOp (C8.fnScope s_op) := NdefX.nscope_by (by decide +kernel)
theorem ok_op {CX : CXT} {cl : List (Str × Addr)} {f c' : Addr} (m_int : mg "int" = none) : NdefX.NOk P w K mg base CX 1 f (mkOp cl c') ["a", "b"] frOp spOp := by
  refine NdefX.nok_of (N := ["a", "b", "base", "size", "step", "wrong"]) sc_op (fun doc pm ctv us hl => match us, hl with | [_, _], _ => rfl) (fun ws vs H Q E h => ?_) (fun A outer s H vs ws Q E hr hf hc hlw h => ?_)
  · obtain ⟨_, _, _, _, _, _, _, _, rfl, _⟩ := h
    rfl
  · obtain ⟨d, es, ba, sz, st, a, b, rfl, rfl, hd, h0, a0, a1, q⟩ := h
    have hu := Nat.lt_of_le_of_lt (Nat.add_le_add_left (show 1 ≤ 200 by decide) _) hr.un
    refine ⟨_, (pss_one (ps_ret (pe_dget2 hu (pv 5) (pe_tup (pa_cons (pv 0) (pa_cons (pv 1) pa_nil))) (pe_op op_mod (pe_callTy call_intI (by rfl) m_int (by decide +kernel) (pa_cons (pe_op op_add (pe_op op_add (pe_op op_mul (pv 0) (pv 4)) (pv 1)) (pv 2)) pa_nil)) (pv 3)) ⟨rfl, rfl, rfl, rfl⟩))), ?_⟩
    show tRet _ _ [some (.int a), some (.int b), some (.int ba), some (.int sz), some (.int st), some (.ref d)] H
    unfold tRet tDGet2
    walk_at "rd"
    refine ⟨.inr ⟨_, .inl hd⟩, by show 2 ≤ sizeLine; decide, fun tp htp => ?_⟩
    have e3 := same_new (o := .tup ((key2 a b).map L2.kV)) htp
    exact ⟨.inl ⟨by omega, by omega⟩, h0, _, DGet.t (k := key2 a b) (e3 _ _ hd) upd_same, by rw [valV_dt]; exact (show ((lkT es (key2 a b)).map V.int).getD (.int ((a * st + b + ba) % sz)) = V.int (opV es ba sz st a b) by unfold opV; cases lkT es (key2 a b) <;> rfl) ▸ q _ e3⟩
end
end Fp

namespace Fp
open PySem PySem.Spec PyProof.Rows L2 Fd
local macro_rules | `(tactic| walk_at "rd") => `(tactic| simp only [cxK, cxKn, tRet, tRetN, rIntI, rIntB, rLenL, rListL, rListT, rAbs, tDisp, tPairs, tC, tCB, tCons, tNil, tSl, tVar, tNoPart, tPart, rSlL, tOp, tAsg, gName, tIfS, tDrop, tTest, tAnd, tOr, Evl.tCut, tNot, tB, rI0, rI, rIxL, rIxT, rIxD, tDGet, sDPut, tLst, tTup, tBM, tBM0, tPar, rAppend, rPopAt, rPop, rExtend, rTupL, tCall, tNext, rAll, rOwnIn, rOwn2, rCat, lc_iL, lc_iT, lc_iK, lc_iR, lc_iE, fr_iL, fr_iT, fr_iR, tYes, rIn, rEq, rNe, gTup, gCons, gNil, wipe, tMeth, tFld, sFld, tMake, tProp, tIf, tAndV, tOrV, tNotV, tTru, rIsi, rSum, tRevL, rU, tUn, rIxS, iEnum, if_true, if_false, Bool.false_eq_true, List.map_cons, List.map_nil, List.nil_append, List.append_nil, List.cons_append, List.getElem?_cons_zero, List.getElem?_cons_succ, Option.some.injEq, exists_and_left, exists_eq_left', exists_eq_left, List.cons.injEq, and_true, true_and, V.ref.injEq, V.int.injEq, V.str.injEq, V.bl.injEq, List.set_cons_zero, List.set_cons_succ])
local macro_rules | `(tactic| walk_at "ev") => `(tactic| (repeat' (first | (with_reducible first | exact ev_int | exact ev_str | exact ev_bl | exact ev_non | exact eva_nil | apply eva_cons | exact r2_add | exact r2_sub | exact r2_lt | exact r2_le | exact r2_gt | exact r2_ge | exact r2_eqI | exact r2_neI | exact r2_eqS | exact r2_neS | exact ra_len | exact ra_intI | exact ra_list | apply ev_op | apply ev_cb | apply evb_T (lv := true) | apply evb_B (lv := true) | apply evb_not) | ((with_reducible apply ev_var); exact rfl))))
section
variable {K : PySem.W.Frag} {P : Program} {w : World} {base : Heap} {mg : Str → Option Value} {C FE CT CV CS : Addr}
theorem pe_no {X : Cx} {e : Expr} : PE X e (fun _ _ _ => False) := ⟨fun pins s σ H Q I h => h.elim⟩
def spOfBad (C CS : Addr) : Sp := fun vs H Q E => ∃ (n : Int) (v : V), vs = [.ref C, .int n, v] ∧ ¬(1 ≤ n ∧ n ≤ 60) ∧ ∀ dd H', H dd = none → Same H H' → H' dd = some (.xd [(("size" : Str), V.int n)]) → E (.ref CS) (some dd) H'
theorem same_make {H : Hp} {x dx : Addr} (hx : H x = none) (hdx : H dx = none) : Same H (upd (upd H dx (.own x)) x (.ins C dx [])) := fun b o hb => by
  rw [upd_ne (fun w => by rw [w, hx] at hb; cases hb), upd_ne (fun w => by rw [w, hdx] at hb; cases hb)]
  exact hb
abbrev s_Table_of : Stmt := inClass (topS 12) 1
theorem sc_Table_of : FnScope ["cls", "size", "operation", "table", "a", "b"] ["cls", "size", "operation"] (defScope s_Table_of) := ⟨rfl, rfl, rfl, by decide +kernel, rfl, by decide +kernel, by decide +kernel⟩
theorem ok_ofBad {f : Addr} {fd : FuncData} (F : Fun K "of" "Table.of" s_Table_of f fd) (m_range : mg "range" = none) (N : Ke P w K mg base 3 C ["self", "size"] [] (spTNR C CS)) (M_set : Se P w K mg base 4 C ["self", "at", "worth"] (spTSX K C CV)) : FnOk P w K mg base (L2.CX P w) 5 f fd ["cls", "size", "operation"] (spOfBad C CS) := by
  refine F.okX sc_Table_of (fun vs H Q E h => ?_) (fun cdv A outer s H vs Q E hr h => ?_)
  · obtain ⟨n, v, rfl, _⟩ := h
    rfl
  · obtain ⟨n, v, rfl, hn, q⟩ := h
    refine ⟨_, (pss_cons (ps_set (i := 3) sc_Table_of.nd rfl (.inl rfl) (pkl (i := 0) (E := E) N (hr.mono (by decide)) rfl (.inl rfl) (passes_call (takes_of rfl rfl rfl rfl) fun _ _ _ _ h => h) (pa_cons (pv 1) pa_nil)))
    (pss_cons (ps_for (passes_of rfl) rfl (pi_range1 rfl m_range (pa_cons (pv 1) pa_nil)) (pg_name (i := 4) sc_Table_of.nd rfl (.inl rfl))
      (pss_one (ps_for (passes_of rfl) rfl (pi_range1 rfl m_range (pa_cons (pv 1) pa_nil)) (pg_name (i := 5) sc_Table_of.nd rfl (.inl rfl))
      (pss_one (ps_asg pe_no (pg_sub (pv 3) (pe_tup (pa_cons (pv 4) (pa_cons (pv 5) pa_nil))) (set_own (E := E) M_set (hr.mono (by decide)) (passes_call (takes_of rfl rfl rfl rfl) fun _ _ _ _ h => h))))))))
    (pss_one (ps_ret (pv 3))))), ?_⟩
    show tSeq _ _ _ [some (.ref C), some (.int n), some v, none, none, none] H
    refine seqi fun k0 hk0 => ?_
    refine ⟨rfl, ?_⟩
    refine ⟨_, rfl, ?_⟩
    intro x dx hx hdx ne
    refine .inr ⟨x, dx, n, rfl, upd_same, hn, fun dd H' hd e hx' => q dd H' ?_ ((same_make hx hdx).trans e) hx'⟩
    have n1 : dd ≠ x := fun w => by rw [w, upd_same] at hd; cases hd
    have n2 : dd ≠ dx := fun w => by rw [w, upd_ne ne, upd_same] at hd; cases hd
    rw [upd_ne n1, upd_ne n2] at hd
    exact hd
/-- the table of a function -/
def opM (n : Nat) (g : Int → Int → Int) : List (List Int) := (span n).map fun a => (span n).map fun b => g a b
theorem opM_row {n : Nat} {g : Int → Int → Int} {a : Int} (h : OkV n a) : rowOf (opM n g) a = (span n).map fun b => g a b := by
  obtain ⟨h1, h2⟩ := okv_nat h
  unfold rowOf opM
  rw [List.getD_eq_getElem?_getD, List.getElem?_map, span_at h1]
  show (span n).map (fun b => g (a.toNat : Nat) b) = _
  rw [h2]
theorem opM_cel {n : Nat} {g : Int → Int → Int} {a b : Int} (h : OkV n a) (h' : OkV n b) : cel (opM n g) a b = g a b := by
  unfold cel
  rw [opM_row h]
  obtain ⟨h1, h2⟩ := okv_nat h'
  rw [List.getD_eq_getElem?_getD, List.getElem?_map, span_at h1]
  show g a (b.toNat : Nat) = _
  rw [h2]
theorem opM_tbl {n : Nat} {g : Int → Int → Int} (h : ∀ x y, OkV n x → OkV n y → OkV n (g x y)) : Tbl n (opM n g) := ⟨by unfold opM; rw [List.length_map, span_len], fun r hr => by
  obtain ⟨a, ha, rfl⟩ := List.mem_map.mp hr
  rw [List.length_map, span_len], fun r hr z hz => by
  obtain ⟨a, ha, rfl⟩ := List.mem_map.mp hr
  obtain ⟨b, hb, rfl⟩ := List.mem_map.mp hz
  exact h a b (mem_span.mp ha) (mem_span.mp hb)⟩
theorem zero_tbl {n : Nat} (hn : 1 ≤ n) : Tbl n (zeroM n) := ⟨zero_len, fun r hr => by rw [List.eq_of_mem_replicate hr, List.length_replicate], fun r hr z hz => by
  rw [List.eq_of_mem_replicate hr] at hz
  rw [List.eq_of_mem_replicate hz]
  exact ⟨Int.le_refl _, by omega⟩⟩
/-- before (i, j), row by row -/
def Bef (x y i j : Nat) : Prop := x < i ∨ (x = i ∧ y < j)
/-- a table behind o[a, b] = z -/
theorem tab_setAt {K : PySem.W.Frag} {C dx A : Addr} {rs : List Addr} {E : List (List Int)} {n : Nat} {a b z : Int} {H1 H5 : Hp} {o r' : Addr} (hp : H1 o = some (.ins C dx (tFl (E.length : Nat) (.ref A)))) (hm : MatAt H1 A rs E) (tb : Tbl n E) (oa : OkV n a) (nd : (o :: A :: rs).Nodup) (hr' : rs[a.toNat]? = some r') (e5 : ∀ c u, H1 c = some u → c ≠ r' → H5 c = some u) (h5' : H5 r' = some (.lst (((rowOf E a).set b.toNat z).map V.int))) (Hh : Hp) : OvAt K Hh H5 o (.tab C dx A rs (setM E a b z)) := by
  obtain ⟨n1, n2⟩ := List.nodup_cons.mp nd
  obtain ⟨n3, n4⟩ := List.nodup_cons.mp n2
  have npr : o ≠ r' := fun w => n1 (by rw [w]; exact List.mem_cons_of_mem _ (List.mem_of_getElem? hr'))
  have nar : A ≠ r' := fun w => n3 (by rw [w]; exact List.mem_of_getElem? hr')
  refine ⟨?_, ?_, ?_, fun k2 r3 row2 g1 g2 => ?_⟩
  · have : (setM E a b z).length = E.length := by unfold setM; rw [List.length_set]
    rw [this]
    exact e5 _ _ hp npr
  · exact e5 _ _ hm.1 nar
  · unfold setM
    rw [List.length_set]
    exact hm.2.1
  · unfold setM at g2
    by_cases kk : a.toNat = k2
    · subst kk
      rw [hr'] at g1
      cases g1
      rw [List.getElem?_set_self (by rw [tb.len]; exact (okv_nat oa).1)] at g2
      cases g2
      exact h5'
    · rw [List.getElem?_set_ne kk] at g2
      refine e5 _ _ (hm.2.2 k2 r3 row2 g1 g2) fun w => ?_
      subst w
      exact kk (nodup_at n4 hr' g1)
def spOf (C CV : Addr) (cl : List (Str × Addr)) (ws : List (Option V)) : Sp := fun vs H Q E => ∃ (f c' d : Addr) (es : EsT) (ba sz st : Int) (n : Nat), vs = [.ref C, .int (n : Nat), .ref f] ∧ ws = [some (.int ba), some (.int sz), some (.int st), some (.ref d)] ∧
  H f = some (NdefX.FnO f (mkOp cl c')) ∧ H c' = some (LamX.CodeO c' ("_law_of_right" ++ ".<locals>." ++ "_law_operation")) ∧ H d = some (.dT (dtV es)) ∧ 1 ≤ n ∧ n ≤ 60 ∧ 0 < sz ∧
  ((∀ x y, OkV n x → OkV n y → OkV n (opV es ba sz st x y)) → ∀ (p dx A : Addr) (rs : List Addr) H', Same H H' → (∀ a ∈ p :: A :: rs, H a = none) → (p :: A :: rs).Nodup → H' p = some (.ins C dx (tFl (n : Nat) (.ref A))) → MatAt H' A rs (opM n (opV es ba sz st)) → Q (.ref p) H') ∧
  ∀ i j : Nat, i < n → j < n → (∀ x y : Nat, x < n → y < n → Bef x y i j → OkV n (opV es ba sz st x y)) → ¬ OkV n (opV es ba sz st i j) → ∀ dd H', H dd = none → Same H H' → H' dd = some (.xd [(("value" : Str), V.int (opV es ba sz st i j))]) → E (.ref CV) (some dd) H'
theorem ok_of {f : Addr} {fd : FuncData} {cl : List (Str × Addr)} {ws : List (Option V)} (F : Fun K "of" "Table.of" s_Table_of f fd) (b : Binds K fd ["cls", "size", "operation"] []) (m_range : mg "range" = none) (m_int : mg "int" = none) (TX : TxT K mg C) (N : Ke P w K mg base 3 C ["self", "size"] [] (spTNR C CS)) (M_set : Se P w K mg base 4 C ["self", "at", "worth"] (spTSX K C CV)) : FnRC P w K mg base (L2.CX P w) 5 f cl frOp ws (spOf C CV cl ws) := by
  intro A outer s H us vs Q E hr e0 hC hv h
  obtain ⟨oc, od, kV, doc, pm, an, cdv, ct, osl, rfl, lk, hcd⟩ := F.ex
  have KX : K.In s.heap := e0.mod.kin.keeps fun b o e => (e0.bs b o e).1
  obtain ⟨fo, c', d, es, ba, sz, st, n, rfl, hws, hfo, hco, hd, n1, n60, sz0, kOk, kBad⟩ := h
  have hus : us.length = 3 := hv.length.symm
  refine LamX.run_ofS (CX := L2.CX P w) (N := ["cls", "size", "operation", "table", "a", "b"]) (ps := ["cls", "size", "operation"]) lk hcd sc_Table_of hr e0 (by
    have := b s us KX (by rw [List.append_nil]; exact hus)
    rwa [List.append_nil] at this) hv rfl fun hr => ?_
  refine ⟨_, (pss_cons (ps_set (i := 3) sc_Table_of.nd rfl (.inl rfl) (pkl (i := 0) (E := E) N (hr.mono (by decide)) rfl (.inl rfl) (passes_call (takes_of rfl rfl rfl rfl) fun _ _ _ _ h => h) (pa_cons (pv 1) pa_nil)))
    (pss_cons (ps_for (passes_of rfl) rfl (pi_range1 rfl m_range (pa_cons (pv 1) pa_nil)) (pg_name (i := 4) sc_Table_of.nd rfl (.inl rfl))
      (pss_one (ps_for (passes_of rfl) rfl (pi_range1 rfl m_range (pa_cons (pv 1) pa_nil)) (pg_name (i := 5) sc_Table_of.nd rfl (.inl rfl))
      (pss_one (ps_asg (pe_callF (i := 2) (ws := ws) (spn := spOp) (mk := mkOp cl) (E := E) hC rfl (fun f c' => (ok_op m_int).mono (by decide : 1 ≤ 1)) (fun _ => rfl) hr (by decide) (passes_call (takes_of rfl rfl rfl rfl) fun _ _ _ _ h => h) rfl (.inl rfl) (pa_cons (pv 4) (pa_cons (pv 5) pa_nil))) (pg_sub (pv 3) (pe_tup (pa_cons (pv 4) (pa_cons (pv 5) pa_nil))) (set_own (E := E) M_set (hr.mono (by decide)) (passes_call (takes_of rfl rfl rfl rfl) fun _ _ _ _ h => h))))))))
    (pss_one (ps_ret (pv 3))))), ?_⟩
  show tSeq _ _ _ [some (.ref C), some (.int (n : Nat)), some (.ref fo), none, none, none] H
  refine seqi fun k0 hk0 => ?_
  refine ⟨rfl, ?_⟩
  refine ⟨_, rfl, ?_⟩
  intro p dx hp hdx ne
  refine .inl ⟨p, dx, n, rfl, upd_same, n1, n60, fun Ad rs H1 e1 hn nd h1p h1m => ⟨rfl, ?_⟩⟩
  have s1 : Same H H1 := fun b o hb => e1 b o (same_make hp hdx b o hb) fun w => by rw [w, hp] at hb; cases hb
  have new : ∀ a ∈ p :: Ad :: rs, H a = none := fun a ha => by
    rcases List.mem_cons.mp ha with rfl | ha
    · exact hp
    · have := hn a ha
      cases e : H a with
      | none => rfl
      | some o => rw [same_make hp hdx a o e] at this; cases this
  have pn : p ∉ Ad :: rs := fun w => by
    have := hn p w
    rw [upd_same] at this; cases this
  have nd2 : (p :: Ad :: rs).Nodup := List.nodup_cons.mpr ⟨pn, nd⟩
  subst hk0
  generalize hg : opV es ba sz st = g at kOk kBad
  let Iv : Nat → Nat → Hp → Prop := fun i j H' => Same H H' ∧ ∃ M, H' p = some (.ins C dx (tFl (M.length : Nat) (.ref Ad))) ∧ MatAt H' Ad rs M ∧ Tbl n M ∧ ∀ x y : Nat, x < n → y < n → Bef x y i j → OkV n (g x y) ∧ cel M x y = g x y
  have okN : ∀ {x : Nat}, x < n → OkV n (x : Int) := fun h => ⟨by omega, by omega⟩
  have nexti : ∀ {i : Nat} {H' : Hp}, Iv i n H' → Iv (i + 1) 0 H' := fun {i H'} ⟨a1, M, a2, a3, a4, a5⟩ => ⟨a1, M, a2, a3, a4, fun x y hx hy hb => a5 x y hx hy (by unfold Bef at hb ⊢; omega)⟩
  simp only [gName, List.set_cons_succ, List.set_cons_zero]
  refine seqi fun k0 hk0 => ?_
  rw [fr_iR]
  refine ⟨_, rfl, (n : Int), rfl, by omega, by omega, ?_⟩
  rw [Int.toNat_natCast]
  refine forg_by (jseq_rng 0 n) (fun i σ' H' => (∃ a b, σ' = [some (.ref C), some (.int (n : Nat)), some (.ref fo), some (.ref p), a, b]) ∧ Iv i 0 H') ⟨⟨_, _, rfl⟩, s1, zeroM n, by rw [zero_len]; exact h1p, h1m, zero_tbl n1, fun x y _ _ hb => by unfold Bef at hb; omega⟩ (fun _ _ _ _ _ => trivial) (fun i x σ' H' hx hI => ?_) (fun σ' H' hI => ?_)
  · have hi : i < n := by have := (List.getElem?_eq_some_iff.mp hx).1; rwa [rngV_len] at this
    rw [rngV_at hi] at hx
    cases hx
    obtain ⟨⟨a, b, rfl⟩, hI⟩ := hI
    show tFor _ _ _ _ [some (.ref C), some (.int (n : Nat)), some (.ref fo), some (.ref p), some (.int (0 + (i : Int))), b] H'
    rw [Int.zero_add, fr_iR]
    refine ⟨_, rfl, (n : Int), rfl, by omega, by omega, ?_⟩
    rw [Int.toNat_natCast]
    refine forg_by (jseq_rng 0 n) (fun j σ' H' => (∃ b, σ' = [some (.ref C), some (.int (n : Nat)), some (.ref fo), some (.ref p), some (.int (i : Int)), b]) ∧ Iv i j H') ⟨⟨_, rfl⟩, hI⟩ (fun _ _ _ _ _ => trivial) (fun j x σ' H' hx hI => ?_) (fun σ' H' hI => ?_)
    · have hj : j < n := by have := (List.getElem?_eq_some_iff.mp hx).1; rwa [rngV_len] at this
      rw [rngV_at hj] at hx
      cases hx
      obtain ⟨⟨b, rfl⟩, a1, M, a2, a3, a4, a5⟩ := hI
      show tAsg _ _ _ [some (.ref C), some (.int (n : Nat)), some (.ref fo), some (.ref p), some (.int (i : Int)), some (.int (0 + (j : Int)))] H'
      rw [Int.zero_add]
      refine ⟨fo, c', rfl, a1 _ _ hfo, ?_⟩
      refine ⟨_, rfl, _, rfl, a1 _ _ hfo, a1 _ _ hco, d, es, ba, sz, st, i, j, hws, rfl, a1 _ _ hd, sz0, by omega, by omega, fun H3 e3 => ?_⟩
      rw [hg]
      unfold gSub
      walk_at "rd"
      refine ⟨by show 2 ≤ sizeLine; decide, fun l hl => ?_⟩
      have e4 := e3.trans (same_new (o := .tup [.int (i : Int), .int (j : Int)]) hl)
      have a6 := a3.mono fun a o _ h => e4 a o h
      refine ⟨p, dx, _, rfl, e4 _ _ a2, p, l, dx, Ad, rs, M, (i : Int), (j : Int), g i j, n, rfl, e4 _ _ a2, a6, a4, by omega, .inl (.inl upd_same), fun oa ob oz r' H5 hr' e5 h5 => ?_, fun v hv dd H5 hdd e5 hx => ?_⟩
      · have t5 := tab_setAt (K := K) (e4 _ _ a2) a6 a4 oa nd2 hr' e5 h5 H5
        have rn : H r' = none := new r' (List.mem_cons_of_mem _ (List.mem_cons_of_mem _ (List.mem_of_getElem? hr')))
        refine ⟨⟨_, rfl⟩, ⟨fun b o hb => e5 b o (e4 b o (a1 b o hb)) (fun w => (by rw [w, rn] at hb; cases hb)), _, t5.1, t5.2, setM_tbl a4 oa oz, fun x y hx hy hb => ?_⟩⟩
        rw [setM_cel a4 oa ob (okN hx) (okN hy)]
        by_cases w : (x : Int) = i ∧ (y : Int) = j
        · rw [if_pos w]
          obtain ⟨w1, w2⟩ := w
          rw [w1, w2]
          exact ⟨oz, rfl⟩
        · rw [if_neg w]
          exact a5 x y hx hy (by unfold Bef at hb ⊢; omega)
      · have bad : ¬ OkV n (g i j) := fun oz => by
          rw [badV_none fun y hy => ?_] at hv
          · cases hv
          · simp only [List.mem_cons, List.not_mem_nil, or_false] at hy
            rcases hy with rfl | rfl | rfl
            · exact okN hi
            · exact okN hj
            · exact oz
        have hv2 : v = g i j := by
          have h1 := List.mem_of_find?_eq_some hv
          have h2 := List.find?_some hv
          simp only [List.mem_cons, List.not_mem_nil, or_false] at h1
          rcases h1 with rfl | rfl | rfl
          · have := okN hi; unfold OkV at this; unfold badV at h2; simp at h2; omega
          · have := okN hj; unfold OkV at this; unfold badV at h2; simp at h2; omega
          · rfl
        rw [hv2] at hx
        refine kBad i j hi hj (fun x y hx hy hb => (a5 x y hx hy hb).1) bad dd H5 ?_ ((a1.trans e4).trans e5) hx
        exact (Frm.of (M := fun _ => false) (a1.trans e4)).none hdd
    · obtain ⟨⟨b, rfl⟩, hI⟩ := hI
      rw [rngV_len] at hI
      exact ⟨⟨_, _, rfl⟩, nexti hI⟩
  · obtain ⟨⟨a, b, rfl⟩, a1, M, a2, a3, a4, a5⟩ := hI
    rw [rngV_len] at a5
    subst hk0
    have all : ∀ x y, OkV n x → OkV n y → OkV n (g x y) ∧ cel M x y = g x y := fun x y ox oy => by
      obtain ⟨x1, x2⟩ := okv_nat ox
      obtain ⟨y1, y2⟩ := okv_nat oy
      have := a5 x.toNat y.toNat x1 y1 (.inl x1)
      rw [x2, y2] at this
      exact this
    have tM := opM_tbl (n := n) (g := g) fun x y ox oy => (all x y ox oy).1
    have eM : M = opM n g := cel_ext a4 tM fun x ox y oy => by rw [(all x y ox oy).2, opM_cel ox oy]
    refine ⟨_, rfl, kOk (fun x y ox oy => (all x y ox oy).1) p dx Ad rs H' a1 new nd2 ?_ ?_⟩
    · rw [← a4.len]; exact a2
    · rw [← eM]; exact a3
end
end Fp

namespace Fp
open PySem PySem.Spec PyProof.Rows L2 Fd
local macro_rules | `(tactic| walk_at "rd") => `(tactic| simp only [cxK, cxKn, tRet, tRetN, rIntI, rIntB, rLenL, rListL, rListT, rAbs, tDisp, tPairs, tC, tCB, tCons, tNil, tSl, tVar, tNoPart, tPart, rSlL, tOp, tAsg, gName, tIfS, tDrop, tTest, tAnd, tOr, Evl.tCut, tNot, tB, rI0, rI, rIxL, rIxT, rIxD, tDGet, sDPut, tLst, tTup, tBM, tBM0, tPar, rAppend, rPopAt, rPop, rExtend, rTupL, tCall, tNext, rAll, rOwnIn, rOwn2, rCat, lc_iL, lc_iT, lc_iK, lc_iR, lc_iE, fr_iL, fr_iT, fr_iR, tYes, rIn, rEq, rNe, gTup, gCons, gNil, wipe, tMeth, tFld, sFld, tMake, tProp, tIf, tAndV, tOrV, tNotV, tTru, rIsi, rSum, tRevL, rU, tUn, rIxS, iEnum, if_true, if_false, Bool.false_eq_true, List.map_cons, List.map_nil, List.nil_append, List.append_nil, List.cons_append, List.getElem?_cons_zero, List.getElem?_cons_succ, Option.some.injEq, exists_and_left, exists_eq_left', exists_eq_left, List.cons.injEq, and_true, true_and, V.ref.injEq, V.int.injEq, V.str.injEq, V.bl.injEq, List.set_cons_zero, List.set_cons_succ])
local macro_rules | `(tactic| walk_at "ev") => `(tactic| (repeat' (first | (with_reducible first | exact ev_int | exact ev_str | exact ev_bl | exact ev_non | exact eva_nil | apply eva_cons | exact r2_add | exact r2_sub | exact r2_lt | exact r2_le | exact r2_gt | exact r2_ge | exact r2_eqI | exact r2_neI | exact r2_eqS | exact r2_neS | exact ra_len | exact ra_intI | exact ra_list | apply ev_op | apply ev_cb | apply evb_T (lv := true) | apply evb_B (lv := true) | apply evb_not) | ((with_reducible apply ev_var); exact rfl))))
section
variable {K : PySem.W.Frag} {P : Program} {w : World} {base : Heap} {mg : Str → Option Value} {C FE CT CV CS : Addr}
section
variable {lv l1 : Bool} {W : Wd} {δ δ1 : List SV} {t n1 n2 n3 : Nat} {S1 B : TS} {R : Out → Nat → Prop} {te ti ta tx ty : TE} {tr : TA} {d : PyData} {i j l : Nat} {p dx A : Addr} {c : Addr × List NdefX.NTab} {rs : List Addr} {es : EsT} {a b z : Int} {P1 P2 P3 : Int → Prop}
theorem sw_newDT (hi : i < δ.length) (q : ∀ p, R (.nx (δ.set i (.o p (.dt [])))) t) : Sw K W δ t (tAsg tDNewT (gName i)) R := fun Z H σ D mz al r iw k1 k2 k3 k4 k5 => by
  intro p hp
  have e2 := same_new (o := .dT []) hp
  have ra := r.mine (x := .dt []) al e2 (fun a ha => by rw [List.mem_singleton.mp ha]; exact hp) (List.nodup_cons.mpr ⟨by simp, List.nodup_nil⟩) (fun Hh s => upd_same) hi
  refine k1 _ t _ _ (q p) (Aft.of (Frm.of e2) fun b hb => ?_) ra (iw.same e2)
  rcases own_set δ i b hb with w | w
  · rw [List.mem_singleton.mp w]; exact .inr hp
  · exact .inl w
/-- d[x, y] = e, all of them drawn -/
theorem sw_dputX (hi : δ[i]? = some (.o p (.dt es))) (hl : es.length < 100000) (hz : Ex K true W δ te n1 fun d => ∃ z, d = .int z ∧ P1 z) (ha : Ex K true W δ tx n2 fun d => ∃ z, d = .int z ∧ P2 z) (hb : Ex K true W δ ty n3 fun d => ∃ z, d = .int z ∧ P3 z) (ht : t + (n1 + n2 + n3) ≤ 1000000000)
    (qq : ∀ z y v, P1 z → P2 y → P3 v → R (.nx ((fgt δ).set i (.o p (.dt (puT es (key2 y v) z))))) (t + (n1 + n2 + n3))) : Sw K W δ t (sDPut (tVar i) (tTup (tCons tx (tCons ty tNil))) te) R := fun Z H σ D mz al r iw k1 k2 k3 k4 k5 => by
  refine hz Z H σ t mz al r iw (by omega) _ fun w0 d0 H0 f0 i0 p0 hw0 => ?_
  obtain ⟨z, rfl, pz⟩ := p0
  have r0 := r.frm f0 mz.m
  refine ⟨_, (r0.ok i _ hi).1, ?_⟩
  refine ha Z H0 σ (t + n1) mz (f0.alz al) r0 i0 (by omega) _ fun w1 d1 H1 f1 i1 p1 hw1 => ?_
  obtain ⟨y, rfl, py⟩ := p1
  have f01 := f0.trans f1
  refine hb Z H1 σ (t + n1 + n2) mz (f01.alz al) (r.frm f01 mz.m) i1 (by omega) _ fun w2 d2 H2 f2 i2 p2 hw2 => ?_
  obtain ⟨v, rfl, pv⟩ := p2
  cases hw0
  cases hw1
  cases hw2
  refine ⟨by show 2 ≤ sizeLine; decide, fun tp htp => ?_⟩
  have e3 := same_new (o := .tup ((key2 y v).map L2.kV)) htp
  have f3 := (f01.trans f2).trans (Frm.of e3)
  have r3 := r.frm f3 mz.m
  obtain ⟨_, o3⟩ := r3.ok i _ hi
  have o3 : upd H2 tp (.tup ((key2 y v).map L2.kV)) p = some (.dT (dtV es)) := o3
  have zp := r3.off p (own_mem hi)
  refine ⟨p, _, rfl, DPut.t (kvs := dtV es) (k := key2 y v) o3 upd_same (by unfold dtV; rw [List.length_map]; exact Nat.lt_of_lt_of_le hl (by decide)), ?_⟩
  rw [putK_dt]
  have pm : p ∈ OV.adrs p (.dt es) := List.mem_singleton.mpr rfl
  have i3 := (i2.same e3).wr (o := .dT (dtV (puT es (key2 y v) z))) mz zp o3
  rw [show t + n1 + n2 + n3 = t + (n1 + n2 + n3) by omega] at i3
  exact k1 _ _ _ _ (qq z y v pz py pv) (Aft.chg f3 hi rfl (upd_keep pm) upd_al) (r3.chg hi rfl (upd_keep pm) upd_same) i3
theorem evb_inT (hj : δ[j]? = some (.o p (.dt es))) (hk : Ev K lv δ ti (.tuple [.int a, .int b])) : EvB K δ (tB (tDInT K ti (tVar j))) (lkT es (key2 a b)).isSome := fun Z H σ al r Q q => hk Z H σ al r _ fun v H1 e1 hv => by
  obtain ⟨o, vs, rfl, ho, hvs⟩ := hv.tuple
  obtain rfl : vs = [.int a, .int b] := Dvs.ints (zs := [a, b]) hvs
  obtain ⟨s1, o1⟩ := (r.same e1).ok j _ hj
  refine ⟨_, s1, p, o, dtV es, key2 a b, rfl, o1, rfl, same_tup hid_out ho, _, rfl, ?_⟩
  rw [valV_dt, Option.isSome_map]
  exact q H1 e1
theorem ev_getT (hj : δ[j]? = some (.o p (.dt es))) (hk : Ev K lv δ ti (.tuple [.int a, .int b])) (hz : lkT es (key2 a b) = some z) : Ev K l1 δ (tDGetT K (tVar j) ti) (.int z) := fun Z H σ al r Q q => by
  refine ⟨_, (r.ok j _ hj).1, ?_⟩
  refine hk Z H σ al r _ fun v H1 e1 hv => ?_
  obtain ⟨o, vs, rfl, ho, hvs⟩ := hv.tuple
  obtain rfl : vs = [.int a, .int b] := Dvs.ints (zs := [a, b]) hvs
  obtain ⟨s1, o1⟩ := (r.same e1).ok j _ hj
  exact ⟨p, o, dtV es, key2 a b, .int z, rfl, o1, rfl, same_tup hid_out ho, by rw [valV_dt, hz]; rfl, q _ H1 e1 (.int z)⟩
end
end
end Fp

namespace Fp
open PySem PySem.Spec PyProof.Rows L2 Fd
local macro_rules | `(tactic| walk_at "rd") => `(tactic| simp only [cxK, cxKn, tRet, tRetN, rIntI, rIntB, rLenL, rListL, rListT, rAbs, tDisp, tPairs, tC, tCB, tCons, tNil, tSl, tVar, tNoPart, tPart, rSlL, tOp, tAsg, gName, tIfS, tDrop, tTest, tAnd, tOr, Evl.tCut, tNot, tB, rI0, rI, rIxL, rIxT, rIxD, tDGet, sDPut, tLst, tTup, tBM, tBM0, tPar, rAppend, rPopAt, rPop, rExtend, rTupL, tCall, tNext, rAll, rOwnIn, rOwn2, rCat, lc_iL, lc_iT, lc_iK, lc_iR, lc_iE, fr_iL, fr_iT, fr_iR, tYes, rIn, rEq, rNe, gTup, gCons, gNil, wipe, tMeth, tFld, sFld, tMake, tProp, tIf, tAndV, tOrV, tNotV, tTru, rIsi, rSum, tRevL, rU, tUn, rIxS, iEnum, if_true, if_false, Bool.false_eq_true, List.map_cons, List.map_nil, List.nil_append, List.append_nil, List.cons_append, List.getElem?_cons_zero, List.getElem?_cons_succ, Option.some.injEq, exists_and_left, exists_eq_left', exists_eq_left, List.cons.injEq, and_true, true_and, V.ref.injEq, V.int.injEq, V.str.injEq, V.bl.injEq, List.set_cons_zero, List.set_cons_succ])
local macro_rules | `(tactic| walk_at "ev") => `(tactic| (repeat' (first | (with_reducible first | exact ev_int | exact ev_str | exact ev_bl | exact ev_non | exact eva_nil | apply eva_cons | exact r2_add | exact r2_sub | exact r2_lt | exact r2_le | exact r2_gt | exact r2_ge | exact r2_eqI | exact r2_neI | exact r2_eqS | exact r2_neS | exact ra_len | exact ra_intI | exact ra_list | apply ev_op | apply ev_cb | apply evb_T (lv := true) | apply evb_B (lv := true) | apply evb_not) | ((with_reducible apply ev_var); exact rfl))))
section
variable {K : PySem.W.Frag} {P : Program} {w : World} {base : Heap} {mg : Str → Option Value} {C FE CT CV CS : Addr}
/-! a def on data that draws and makes lambdas and defs -/
def spWT (K : PySem.W.Frag) (T : List NdefX.NTab) (P : List PyData → Nat → Prop) (S : List PyData → PyData → Prop) : Sp := fun vs H Q _ => ∃ (p : Addr) (c : Addr × List NdefX.NTab) (t n : Nat) (Z : Zs) (rest : List V) (ds : List PyData), vs = .ref p :: rest ∧ c.2 = T ∧ t + n ≤ 1000000000 ∧ Hd (some (p, c)) Z ∧ Al Z H ∧ Dvs K (hid Z H) rest ds ∧ Iw (some (p, c)) t H ∧ P ds n ∧
  ∀ v d H', Frm (Mw (some (p, c))) H H' → Iw (some (p, c)) (t + n) H' → S ds d → Dv K (hid Z H') v d → Q v H'
theorem fun_WT {x qual : Str} {st : Stmt} {f : Addr} {N ps : List Str} {pn : Str} {k : Nat} {T : List NdefX.NTab} {oc kV doc pm cdv ct : Value} {od an : Option Addr} {osl : Array (Option Value)}
    (lk : K.lookup f = some ⟨oc, od, .func (PySem.W.fnOf x qual (defArgs st) (defBody st) (defScope st) .none kV doc pm an cdv ct), osl⟩) (hcd : PySem.W.codeIn K cdv qual = true) (S : FnScope N (pn :: ps) (defScope st)) {P' : List PyData → Nat → Prop} {R : List PyData → PyData → Prop} (hN : ps.length + 1 ≤ N.length) (hl : ∀ ds n, P' ds n → ds.length = ps.length)
    (hbody : ∀ (A : Around) (outer : List Env) (s : Shared) (H : Hp) (E : XK) (p : Addr) (c : Addr × List NdefX.NTab) (ds : List PyData) (t n : Nat), Room k (A.deeper (envOfC qual (defScope st) s.heap.objs.size f cdv)) → c.2 = T → P' ds n → t + n ≤ 1000000000 →
      ∃ ts, PSs (cxOf CX0 P w K mg base N qual (defScope st) f cdv A outer s H E).nox (defBody st) ts ∧ Sw K (some (p, c)) (.v (.ref p) :: (ds.map SV.d ++ List.replicate (N.length - (ps.length + 1)) .u)) t ts (Fin fun d t' => R ds d ∧ t' ≤ t + n)) :
    FnOk P w K mg base CX0 (k + 1) f (PySem.W.fnOf x qual (defArgs st) (defBody st) (defScope st) .none kV doc pm an cdv ct) (pn :: ps) (spWT K T P' R) := by
  refine fn_cd lk hcd S (fun vs H Q E h => ?_) fun A outer s H vs Q E hr h => ?_
  · obtain ⟨p, c, t, n, Z, rest, ds, rfl, _, _, _, _, hv, _, hp, _⟩ := h
    rw [List.length_cons, List.length_cons, hv.len, hl ds n hp]
  · obtain ⟨p, c, t, n, Z, rest, ds, rfl, hc, ht, hd, al, hv, iw, hp, q⟩ := h
    obtain ⟨ts, hts, hw⟩ := hbody A outer s H E p c ds t n hr hc hp ht
    have hown : own (SV.v (.ref p) :: (ds.map SV.d ++ List.replicate (N.length - (ps.length + 1)) .u)) = [] := own_d ds _
    have re : Rel K Z H (L2.start N (.ref p :: rest)) (.v (.ref p) :: (ds.map SV.d ++ List.replicate (N.length - (ps.length + 1)) .u)) := by
      cases N with
      | nil => simp at hN
      | cons n0 N' =>
        have r0 := rel_start (N := N') (ps := ps) hv (hl ds n hp) (by simpa using hN)
        have e1 : L2.start (n0 :: N') (.ref p :: rest) = some (.ref p) :: L2.start N' rest := by
          unfold L2.start
          simp
        have e2 : (n0 :: N').length - (ps.length + 1) = N'.length - ps.length := by simp
        rw [e1, e2]
        have hz : Zo Z (SV.v (.ref p) :: (ds.map SV.d ++ List.replicate (N'.length - ps.length) .u)) = Zo Z (ds.map SV.d ++ List.replicate (N'.length - ps.length) .u) := rfl
        refine ⟨by rw [List.length_cons, List.length_cons, r0.len], fun i s hi => ?_, r0.nd, r0.off⟩
        cases i with
        | zero => cases hi; rfl
        | succ i => exact svOk_eq hz.symm (r0.ok i s hi)
    have frm : ∀ {H' : Hp}, Frm (Mo (some (p, c)) (.v (.ref p) :: (ds.map SV.d ++ List.replicate (N.length - (ps.length + 1)) .u))) H H' → Frm (Mw (some (p, c))) H H' := fun {H'} f => ⟨fun b o hb m => f.keep b o hb (mo_f.mpr ⟨m, by rw [hown]; simp⟩), f.al⟩
    refine ⟨ts, hts, hw Z H _ _ hd al re iw (fun δ' t' σ' H' e f r i => ?_) (fun d' t' v H' e f i hv' => ?_) (fun δ' t' σ' H' e => e.elim) (fun δ' t' σ' H' e => e.elim) (fun p x t' H' e => e.elim)⟩
    · obtain ⟨e1, e2⟩ := e
      exact q _ .none H' (frm f.frm) (i.mono e2) e1 .non
    · obtain ⟨e1, e2⟩ := e
      exact q v d' H' (frm f) (i.mono e2) e1 hv'
section
variable {lv : Bool} {δ : List SV} {tr : TA} {p : Addr} {c : Addr × List NdefX.NTab} {RA : List PyData → Prop} {i m n : Nat}
theorem ex_callWT {P' : List PyData → Nat → Prop} {S : List PyData → PyData → Prop} (hp : δ[i]? = some (.v (.ref p))) (h : ExA K lv (some (p, c)) δ tr m RA) (hP : ∀ ds, RA ds → P' ds n) :
    Ex K lv (some (p, c)) δ (tCall (spWT K c.2 P' S) [] E0 (tCons (tVar i) tr)) (m + n) (fun d => ∃ ds, RA ds ∧ S ds d) := fun Z H σ t mz al r iw ht Q q => by
  refine ⟨_, r.ok i _ hp, h Z H σ t mz al r iw (by omega) _ fun vs ds H1 f1 i1 rd hv => ?_⟩
  refine ⟨p, c, t + m, n, Zl lv Z δ, vs, ds, by simp, rfl, by omega, mz.sub fun a z => zl_in z, (r.frm f1 mz.m).all (f1.alz al) lv, hv, i1, hP ds rd, fun v d H2 f2 i2 sd hv2 => ?_⟩
  rw [Nat.add_assoc] at i2
  exact q v d H2 (f1.trans f2) i2 ⟨ds, rd, sd⟩ hv2
end
/-! def f ..; x = tried(lambda: T.of(n, f)) -/
section
variable {W : Wd} {δ : List SV} {t n : Nat} {R : Out → Nat → Prop} {p dd : Addr} {c : Addr × List NdefX.NTab} {es : EsT} {ba st : Int} {cl : List (Str × Addr)} {CV CS : Addr}
theorem tabs_off {T : List NdefX.NTab} {H : Hp} (tb : NdefX.TabsN T H) {a : Addr} (h : ∀ ps, H a ≠ some (.tbl ps)) : a ∉ T.map (·.1) := fun w => by
  obtain ⟨x, hx, rfl⟩ := List.mem_map.mp w
  obtain ⟨ps, h1, _⟩ := tb x hx
  exact h ps h1
theorem sw_defTried (h1 : δ[1]? = some (.d (.int (n : Nat)))) (h7 : δ[7]? = some (.d (.int ba))) (h8 : δ[8]? = some (.d (.int st))) (h9 : δ[9]? = some (.o dd (.dt es))) (h3 : 3 < δ.length) (h6 : 6 < δ.length) (n1 : 1 ≤ n) (n60 : n ≤ 60)
    (good : (∀ x y, OkV n x → OkV n y → OkV n (opV es ba n st x y)) → ∀ f p' dx A rs, R (.nx ((δ.set 6 (.v (.ref f))).set 3 (.o p' (.tab C dx A rs (opM n (opV es ba n st)))))) t)
    (bad : ∀ i j : Nat, i < n → j < n → (∀ x y : Nat, x < n → y < n → Bef x y i j → OkV n (opV es ba n st x y)) → ¬ OkV n (opV es ba n st i j) → ∀ f, R (.nx ((δ.set 6 (.v (.ref f))).set 3 (.d (.tuple [.str "value", .int (opV es ba n st i j), .bool true])))) t) :
    Sw K (some (p, c)) δ t (tSeq (tNdefB c.2 6 (mkOp cl)) (tAsg (tLamC c.2 [7, 1, 8, 9] (TTd (TL26 CV CS)) (fun ws E => ClX.tCMeth C (spOf C CV cl ws) E (tC (.ref C)) (tCons (tVar 1) (tCons (tVar 6) tNil)))) (gName 3))) R := fun Z H σ D mz al r iw k1 k2 k3 k4 k5 => by
  refine ⟨iw.2, fun f c' H1 eB T1 f0 f1 c1 => ?_⟩
  have fr1 := ext_frm (p := p) eB
  have i1 := ext_iw iw eB T1
  have r1 := (r.frm fr1 mz.m).put (i := 6) (s := .v (.ref f)) rfl (v := .ref f) rfl
  dsimp only
  refine ⟨T1, fun H2 e2 T2 => ?_⟩
  have fr2 := fr1.trans (ext_frm (p := p) e2)
  have i2 := ext_iw i1 e2 T2
  have r2 := r1.frm (ext_frm (p := p) e2) mz.m
  have al2 := fr2.alz al
  have hf2 := e2.1 f _ f1 (tabs_off T1 fun ps z => by rw [f1] at z; unfold NdefX.FnO at z; cases z)
  have hc2 := e2.1 c' _ c1 (tabs_off T1 fun ps z => by rw [c1] at z; unfold LamX.CodeO at z; cases z)
  have ne : ∀ {i : Nat}, i ≠ 6 → (δ.set 6 (.v (.ref f)))[i]? = δ[i]? := fun h => List.getElem?_set_ne (Ne.symm h)
  obtain ⟨v1, s1, d1⟩ := r2.ok 1 _ ((ne (by decide)).trans h1)
  cases d1
  obtain ⟨v7, s7, d7⟩ := r2.ok 7 _ ((ne (by decide)).trans h7)
  cases d7
  obtain ⟨v8, s8, d8⟩ := r2.ok 8 _ ((ne (by decide)).trans h8)
  cases d8
  obtain ⟨s9, d9⟩ := r2.ok 9 _ ((ne (by decide)).trans h9)
  have s6 : (σ.set 6 (some (.ref f)))[6]? = some (some (.ref f)) := List.getElem?_set_self (by rw [r.len]; exact h6)
  have hws : ([7, 1, 8, 9].map (NdefX.slotAt (σ.set 6 (some (.ref f))))) = [some (.int ba), some (.int (n : Nat)), some (.int st), some (.ref dd)] := by
    simp only [List.map_cons, List.map_nil]
    rw [NdefX.slotAt_of s7, NdefX.slotAt_of s1, NdefX.slotAt_of s8, NdefX.slotAt_of s9]
  have len : 3 < (δ.set 6 (.v (.ref f))).length := by rw [List.length_set]; exact h3
  have af : ∀ {H3 : Hp} {s : SV}, Frm (Mw (some (p, c))) H H3 → (∀ b ∈ own ((δ.set 6 (.v (.ref f))).set 3 s), b ∈ own (δ.set 6 (.v (.ref f))) ∨ H2 b = none) → Aft (some (p, c)) δ ((δ.set 6 (.v (.ref f))).set 3 s) H H3 := fun {H3 s} fr h => Aft.of fr fun b hb => by
    rcases h b hb with w | w
    · exact .inl (own_put rfl b w)
    · exact .inr (fr2.none w)
  refine ⟨rfl, _, s1, _, s6, f, c', dd, es, ba, (n : Nat), st, n, rfl, hws, hf2, hc2, d9, n1, n60, by omega, fun ok p' dx A rs H3 e3 hn nd hp hm => ⟨_, rfl, ?_⟩, fun i j hi hj bf nb d' H3 hd e3 hx => ?_⟩
  · have ho : ∀ Hh, OvAt K Hh H3 p' (.tab C dx A rs (opM n (opV es ba n st))) := fun Hh => ⟨by unfold opM; rw [List.length_map, span_len]; exact hp, hm⟩
    obtain ⟨q1, q2⟩ := new_slot al2 r2 e3 rfl ho hn nd len
    exact k1 _ t _ H3 (good ok f p' dx A rs) (af (fr2.trans (Frm.of e3)) q2) q1 (i2.same e3)
  · refine ⟨CV, ["value"], "value", [.int (opV es ba n st i j)], d', by simp [TL26], rfl, rfl, rfl, hx, fun q hq => ?_⟩
    have e4 := e3.trans (same_new (o := .tup [.str "value", .int (opV es ba n st i j), .bl true]) hq)
    have r4 := (r2.same e4).putD (i := 3) (d := .tuple [.str "value", .int (opV es ba n st i j), .bool true]) (.tup (.inl (.inl (hid_in upd_same (((r2.same e3).all (al2.same e3) true).off hq)))) (.cons (.str _) (.cons (.int _) (.cons (.bl true) .nil))))
    exact k1 _ t _ _ (bad i j hi hj bf nb f) (af (fr2.trans (Frm.of e4)) fun b hb => .inl (own_put rfl b hb)) r4 (i2.same e4)
end
end
end Fp

namespace Fp
open PySem PySem.Spec PyProof.Rows L2 Fd
local macro_rules | `(tactic| walk_at "rd") => `(tactic| simp only [cxK, cxKn, tRet, tRetN, rIntI, rIntB, rLenL, rListL, rListT, rAbs, tDisp, tPairs, tC, tCB, tCons, tNil, tSl, tVar, tNoPart, tPart, rSlL, tOp, tAsg, gName, tIfS, tDrop, tTest, tAnd, tOr, Evl.tCut, tNot, tB, rI0, rI, rIxL, rIxT, rIxD, tDGet, sDPut, tLst, tTup, tBM, tBM0, tPar, rAppend, rPopAt, rPop, rExtend, rTupL, tCall, tNext, rAll, rOwnIn, rOwn2, rCat, lc_iL, lc_iT, lc_iK, lc_iR, lc_iE, fr_iL, fr_iT, fr_iR, tYes, rIn, rEq, rNe, gTup, gCons, gNil, wipe, tMeth, tFld, sFld, tMake, tProp, tIf, tAndV, tOrV, tNotV, tTru, rIsi, rSum, tRevL, rU, tUn, rIxS, iEnum, if_true, if_false, Bool.false_eq_true, List.map_cons, List.map_nil, List.nil_append, List.append_nil, List.cons_append, List.getElem?_cons_zero, List.getElem?_cons_succ, Option.some.injEq, exists_and_left, exists_eq_left', exists_eq_left, List.cons.injEq, and_true, true_and, V.ref.injEq, V.int.injEq, V.str.injEq, V.bl.injEq, List.set_cons_zero, List.set_cons_succ])
local macro_rules | `(tactic| walk_at "ev") => `(tactic| (repeat' (first | (with_reducible first | exact ev_int | exact ev_str | exact ev_bl | exact ev_non | exact eva_nil | apply eva_cons | exact r2_add | exact r2_sub | exact r2_lt | exact r2_le | exact r2_gt | exact r2_ge | exact r2_eqI | exact r2_neI | exact r2_eqS | exact r2_neS | exact ra_len | exact ra_intI | exact ra_list | apply ev_op | apply ev_cb | apply evb_T (lv := true) | apply evb_B (lv := true) | apply evb_not) | ((with_reducible apply ev_var); exact rfl))))
section
variable {K : PySem.W.Frag} {P : Program} {w : World} {base : Heap} {mg : Str → Option Value} {C FE CT CV CS : Addr}
section
variable {W : Wd} {δ : List SV} {t n1 lim : Nat} {te : TE} {g : TG} {tb : TS} {R : Out → Nat → Prop}
theorem sw_assoc {K : PySem.W.Frag} {b1 b2 b3 : TS} (h : Sw K W δ t (tSeq (tSeq b1 b2) b3) R) : Sw K W δ t (tSeq b1 (tSeq b2 b3)) R := h
theorem sw_forRX (h : Ex K true W δ te n1 fun d => ∃ m : Nat, d = .int (m : Nat) ∧ m ≤ lim) (ht : t + n1 ≤ 1000000000) (hs : ∀ m : Nat, m ≤ lim → Sw K W δ (t + n1) (tFor (iRng1 (tCons (tC (.int (m : Nat))) tNil)) g tb) R) : Sw K W δ t (tFor (iRng1 (tCons te tNil)) g tb) R := fun Z H σ D mz al r iw k1 k2 k3 k4 k5 => by
  rw [fr_iR]
  refine h Z H σ t mz al r iw ht _ fun v d H1 f i1 pd hv => ?_
  obtain ⟨m, rfl, hm⟩ := pd
  cases hv
  have q := (hs m hm).go (s := 0) mz al r i1 f k1 k2 k3 k4 k5
  rw [fr_iR] at q
  obtain ⟨j, e, b1, b2, fg⟩ := q
  cases (List.cons.inj e).1
  exact ⟨_, rfl, b1, b2, fg⟩
end
/-- what the law makes wrong -/
def Wrg (n : Nat) (es : EsT) : Prop := ∀ x y z, lkT es (key2 x y) = some z → OkV n x ∧ OkV n y ∧ ¬ OkV n z
theorem Wrg.put {n : Nat} {es : EsT} {a b z : Int} (h : Wrg n es) (oa : OkV n a) (ob : OkV n b) (oz : ¬ OkV n z) : Wrg n (puT es (key2 a b) z) := fun x y v hv => by
  rw [lkT_put] at hv
  by_cases w : key2 x y = key2 a b
  · rw [if_pos w] at hv
    obtain ⟨rfl, rfl⟩ := key2_inj.mp w
    cases hv
    exact ⟨oa, ob, oz⟩
  · rw [if_neg w] at hv
    exact h x y v hv
theorem opV_ok {n : Nat} {es : EsT} {ba st x y : Int} (h1 : 1 ≤ n) (hn : lkT es (key2 x y) = none) : opV es ba n st x y = (x * st + y + ba) % (n : Int) ∧ OkV n (opV es ba n st x y) := by
  have e : opV es ba n st x y = (x * st + y + ba) % (n : Int) := by unfold opV; rw [hn]; rfl
  rw [e]
  exact ⟨rfl, Int.emod_nonneg _ (by omega), Int.emod_lt_of_pos _ (by omega)⟩
theorem opV_bad {n : Nat} {es : EsT} {ba st x y z : Int} (hw : Wrg n es) (hz : lkT es (key2 x y) = some z) : opV es ba n st x y = z ∧ ¬ OkV n z := by
  refine ⟨by unfold opV; rw [hz]; rfl, (hw x y z hz).2.2⟩
theorem first_at {α : Type} {p : α → Bool} : ∀ {zs : List α} {k : Nat} {a : α}, zs[k]? = some a → p a = true → (∀ m b, m < k → zs[m]? = some b → p b = false) → (zs.filter p).head? = some a
  | [], k, a, h, _, _ => by simp at h
  | z :: r, 0, a, h, hp, _ => by
    cases h
    rw [List.filter_cons, if_pos hp]
    rfl
  | z :: r, k + 1, a, h, hp, hb => by
    rw [List.filter_cons, if_neg (by rw [hb 0 z (Nat.succ_pos _) rfl]; exact Bool.false_ne_true)]
    exact first_at h hp fun m b hm e => hb (m + 1) b (Nat.succ_lt_succ hm) e
def prs (n : Nat) : List (Int × Int) := (span (n * n)).map fun z => (z / (n : Int), z % (n : Int))
def inW (es : EsT) (p : Int × Int) : Bool := (lkT es (key2 p.1 p.2)).isSome
theorem prs_at {n k : Nat} (h : k < n * n) : (prs n)[k]? = some (((k / n : Nat) : Int), ((k % n : Nat) : Int)) := by
  unfold prs
  rw [List.getElem?_map, span_at h]
  show some ((k : Int) / (n : Int), (k : Int) % (n : Int)) = _
  rw [Int.natCast_ediv, Int.natCast_emod]
theorem prs_ok {n : Nat} {p : Int × Int} (h : p ∈ prs n) : OkV n p.1 ∧ OkV n p.2 := by
  obtain ⟨k, hk⟩ := List.mem_iff_getElem?.mp h
  have hl : k < n * n := by
    have := (List.getElem?_eq_some_iff.mp hk).1
    unfold prs at this
    rwa [List.length_map, span_len] at this
  rw [prs_at hl] at hk
  cases hk
  have n0 : 0 < n := Nat.pos_of_ne_zero fun w => by rw [w] at hl; exact absurd hl (by simp)
  have h1 : k / n < n := Nat.div_lt_of_lt_mul hl
  have h2 : k % n < n := Nat.mod_lt _ n0
  generalize k / n = x at h1 ⊢
  generalize k % n = y at h2 ⊢
  exact ⟨⟨Int.natCast_nonneg _, by show ((x : Nat) : Int) < n; omega⟩, ⟨Int.natCast_nonneg _, by show ((y : Nat) : Int) < n; omega⟩⟩
theorem places_none {n : Nat} {es : EsT} (h : ∀ x y, OkV n x → OkV n y → lkT es (key2 x y) = none) : (prs n).filter (inW es) = [] := List.filter_eq_nil_iff.mpr fun p hp => by
  obtain ⟨h1, h2⟩ := prs_ok hp
  unfold inW
  rw [h _ _ h1 h2]
  exact Bool.false_ne_true
theorem places_first {n i j : Nat} {es : EsT} {z : Int} (hi : i < n) (hj : j < n) (hz : lkT es (key2 i j) = some z) (hb : ∀ x y : Nat, x < n → y < n → Bef x y i j → lkT es (key2 x y) = none) : ((prs n).filter (inW es)).head? = some ((i : Int), (j : Int)) := by
  have n0 : 0 < n := Nat.lt_of_le_of_lt (Nat.zero_le _) hi
  have hk : i * n + j < n * n := Nat.lt_of_lt_of_le (by rw [Nat.succ_mul]; omega : i * n + j < (i + 1) * n) (Nat.mul_le_mul_right n hi)
  have d1 : (i * n + j) / n = i := by rw [Nat.add_comm, Nat.add_mul_div_right _ _ n0, Nat.div_eq_of_lt hj, Nat.zero_add]
  have d2 : (i * n + j) % n = j := by rw [Nat.add_comm, Nat.add_mul_mod_self_right, Nat.mod_eq_of_lt hj]
  refine first_at (k := i * n + j) (by rw [prs_at hk, d1, d2]) (by unfold inW; rw [hz]; rfl) fun m b hm e => ?_
  have hm2 : m < n * n := Nat.lt_trans hm hk
  rw [prs_at hm2] at e
  cases e
  unfold inW
  have h1 : m / n < n := Nat.div_lt_of_lt_mul hm2
  have h2 : m % n < n := Nat.mod_lt _ n0
  have dm := Nat.div_add_mod m n
  have bf : Bef (m / n) (m % n) i j := by
    unfold Bef
    rcases Nat.lt_trichotomy (m / n) i with w | w | w
    · exact .inl w
    · refine .inr ⟨w, ?_⟩
      rw [w, Nat.mul_comm] at dm
      omega
    · have := Nat.mul_le_mul_left n (show i + 1 ≤ m / n from w)
      rw [Nat.mul_add, Nat.mul_one, Nat.mul_comm n i] at this
      omega
  rw [hb _ _ h1 h2 bf]
  rfl
end
end Fp

namespace Fp
open PySem PySem.Spec PyProof.Rows L2 Fd
local macro_rules | `(tactic| walk_at "rd") => `(tactic| simp only [cxK, cxKn, tRet, tRetN, rIntI, rIntB, rLenL, rListL, rListT, rAbs, tDisp, tPairs, tC, tCB, tCons, tNil, tSl, tVar, tNoPart, tPart, rSlL, tOp, tAsg, gName, tIfS, tDrop, tTest, tAnd, tOr, Evl.tCut, tNot, tB, rI0, rI, rIxL, rIxT, rIxD, tDGet, sDPut, tLst, tTup, tBM, tBM0, tPar, rAppend, rPopAt, rPop, rExtend, rTupL, tCall, tNext, rAll, rOwnIn, rOwn2, rCat, lc_iL, lc_iT, lc_iK, lc_iR, lc_iE, fr_iL, fr_iT, fr_iR, tYes, rIn, rEq, rNe, gTup, gCons, gNil, wipe, tMeth, tFld, sFld, tMake, tProp, tIf, tAndV, tOrV, tNotV, tTru, rIsi, rSum, tRevL, rU, tUn, rIxS, iEnum, if_true, if_false, Bool.false_eq_true, List.map_cons, List.map_nil, List.nil_append, List.append_nil, List.cons_append, List.getElem?_cons_zero, List.getElem?_cons_succ, Option.some.injEq, exists_and_left, exists_eq_left', exists_eq_left, List.cons.injEq, and_true, true_and, V.ref.injEq, V.int.injEq, V.str.injEq, V.bl.injEq, List.set_cons_zero, List.set_cons_succ])
local macro_rules | `(tactic| walk_at "ev") => `(tactic| (repeat' (first | (with_reducible first | exact ev_int | exact ev_str | exact ev_bl | exact ev_non | exact eva_nil | apply eva_cons | exact r2_add | exact r2_sub | exact r2_lt | exact r2_le | exact r2_gt | exact r2_ge | exact r2_eqI | exact r2_neI | exact r2_eqS | exact r2_neS | exact ra_len | exact ra_intI | exact ra_list | apply ev_op | apply ev_cb | apply evb_T (lv := true) | apply evb_B (lv := true) | apply evb_not) | ((with_reducible apply ev_var); exact rfl))))
section
variable {K : PySem.W.Frag} {P : Program} {w : World} {base : Heap} {mg : Str → Option Value} {C FE CT CV CS : Addr}
def prD (p : Int × Int) : PyData := .tuple [.int p.1, .int p.2]
theorem prs_lay : ∀ ps : List (Int × Int), PyData.canLayAll0 (ps.map prD) = true ∧ PyData.hasDictAll (ps.map prD) = false
  | [] => ⟨rfl, rfl⟩
  | p :: r => by
    obtain ⟨h1, h2⟩ := prs_lay r
    have l : (prD p).canLay0 = true := by simp [prD, PyData.canLay0, PyData.canLayAll0]
    exact ⟨by rw [List.map_cons]; simp [PyData.canLayAll0, l, h1], by rw [List.map_cons]; simp [PyData.hasDictAll, h2, prD, PyData.hasDict]⟩
theorem ne_pairs (ps : List (Int × Int)) : R2d K (rNeC K) (.list (ps.map prD)) (.list []) (.bool (!decide (ps = []))) := by
  obtain ⟨h1, h2⟩ := prs_lay ps
  refine (r2_neC ⟨by simp [PyData.hasDict, h2], rfl, by simp [PyData.canLay0, h1], by simp [PyData.canLay0, PyData.canLayAll0], by refine Nat.le_trans (Nat.min_le_right _ _) ?_; simp [PyData.depth, PyData.depthAll]⟩).cast ?_
  cases ps <;> simp [PyData.eqv, PyData.eqvAll]
def pOrP : List PyData → Nat → Prop := fun ds m => ∃ n : Nat, ds = [.int (n : Nat)] ∧ 1 ≤ n ∧ n ≤ 12 ∧ m = 9
def pOrR : List PyData → PyData → Prop := fun _ d => d = .bool true
/-- the code objects of the def, by their lines -/
def nmR : Nat → Nat → Str := fun line _ => if line = 161 then "_law_of_right" ++ ".<locals>." ++ "<lambda>" else "_law_of_right" ++ ".<locals>." ++ "_law_operation"
theorem ok_ofright {f CV CS : Addr} {T : List NdefX.NTab} {oc kV doc pm cdv ct : Value} {od an : Option Addr} {osl : Array (Option Value)}
    (lk : K.lookup f = some ⟨oc, od, .func (PySem.W.fnOf "_law_of_right" "_law_of_right" (defArgs s__law_of_right) (defBody s__law_of_right) (defScope s__law_of_right) .none kV doc pm an cdv ct), osl⟩) (hcd : PySem.W.codeIn K cdv "_law_of_right" = true) (MK : MakN base mg T cdv nmR) (TX : TxT K mg C)
    (m_range : mg "range" = none) (m_int : mg "int" = none) (m_str : mg "str" = none) (m_Table : mg "Table" = some (.ref C)) (L_tried : LcOk P w K mg base "_law_tried" (TTd (TL26 CV CS))) (D_law_draw : Dn P w K mg base 1 "_law_draw" ["pen", "span"] spDraw) (D_law_pick : Dn P w K mg base 2 "_law_pick" ["pen", "options"] (spW K pPiP pPiR))
    (D_law_rows_of_table : Dn P w K mg base 4 "_law_rows_of_table" ["made"] (spV K (pROT C))) (D_law_rows_text : Dn P w K mg base 1 "_law_rows_text" ["rows"] (spV K pRT)) (M_str : Mn P w K mg base 1 C "__str__" ["self"] (spV K (pTS C)))
    (M_ofc : ∃ mc q g, ClX.CRead K C mc ∧ ClX.CMet K C mc "of" q g ∧ ∀ cl ws, FnRC P w K mg base (L2.CX P w) 5 g cl frOp ws (spOf C CV cl ws)) :
    FnOk P w K mg base CX0 8 f (PySem.W.fnOf "_law_of_right" "_law_of_right" (defArgs s__law_of_right) (defBody s__law_of_right) (defScope s__law_of_right) .none kV doc pm an cdv ct) ["pen", "size"] (spWT K T pOrP pOrR) := by
  refine fun_WT lk hcd sc__law_of_right (by decide) (fun ds m h => by obtain ⟨_, rfl, _⟩ := h; rfl) (fun A outer s H E p c ds t m hr hc h ht => ?_)
  obtain ⟨n, rfl, h1, h12, rfl⟩ := h
  subst hc
  obtain ⟨mc, q0, g0, hC1, hC2, hC3⟩ := M_ofc
  have hu64 := hr.units
  have hu := Nat.lt_of_le_of_lt (Nat.add_le_add_left (show 1 ≤ 64 by decide) _) hu64
  refine ⟨_, (pss_cons (ps_set (i := 9) sc__law_of_right.nd rfl (.inr rfl) pe_dnewT)
    (pss_cons (ps_for PassesOwn.never rfl (pi_range1 rfl m_range (pa_cons (pd D_law_draw (hr.mono (by decide)) (by rfl) (pa_cons (pv 0) (pa_cons pe_int pa_nil))) pa_nil)) (pg_name (i := 2) sc__law_of_right.nd rfl (.inl rfl))
      (pss_one (ps_dput hu (pv 9) (pe_tup (pa_cons (pd D_law_draw (hr.mono (by decide)) (by rfl) (pa_cons (pv 0) (pa_cons (pv 1) pa_nil))) (pa_cons (pd D_law_draw (hr.mono (by decide)) (by rfl) (pa_cons (pv 0) (pa_cons (pv 1) pa_nil))) pa_nil))) (pd D_law_pick (hr.mono (by decide)) (by rfl) (pa_cons (pv 0) (pa_cons (pe_lst (pa_cons (pe_un un_neg pe_int) (pa_cons (pv 1) (pa_cons (pe_op op_add (pv 1) pe_int) (pa_cons (pe_op op_pow pe_int pe_int) (pa_cons (pe_un un_neg (pv 1)) pa_nil)))))) pa_nil))) rfl)))
    (pss_cons (ps_asg (pe_tup (pa_cons (pd D_law_draw (hr.mono (by decide)) (by rfl) (pa_cons (pv 0) (pa_cons (pv 1) pa_nil))) (pa_cons (pd D_law_draw (hr.mono (by decide)) (by rfl) (pa_cons (pv 0) (pa_cons (pv 1) pa_nil))) pa_nil))) (pg_tupK K (pg_tup (n := 2) rfl (pgs_cons (pg_name (i := 8) sc__law_of_right.nd rfl (.inr rfl)) (pgs_cons (pg_name (i := 7) sc__law_of_right.nd rfl (.inr rfl)) pgs_nil)))))
    (pss_cons (ps_ndefB (i := 6) (st := s_op) (T := c.2) rfl MK rfl op_free rfl rfl rfl sc__law_of_right.nd rfl (.inr rfl) (.inl rfl))
    (pss_cons (ps_set (i := 3) sc__law_of_right.nd rfl (.inl rfl) (pe_lcallC (T := c.2) (TT := TTd (TL26 CV CS)) (fr := frOp) (js := [7, 1, 8, 9]) (t := fun ws E => ClX.tCMeth C (spOf C CV _ ws) E (tC (.ref C)) (tCons (tVar 1) (tCons (tVar 6) tNil))) L_tried (by rfl) MK rfl hr rfl rfl (fun ok => NdefX.Caps.made ok op_free op_fr rfl) (fun _ _ _ _ _ => rfl) (fun A outer s H E f c1 ws hr2 hC => pe_cmethC hC rfl (pe_glob rfl m_Table (v := .ref C) rfl) hC1 hC2 (hC3 _ ws) hr2 (passes_call (takes_of rfl rfl rfl rfl) fun _ _ _ _ h => h) (pa_cons (pv 1) (pa_cons (pv 6) pa_nil)))))
    (pss_cons (ps_setLc (i := 4) (own := [("place", 10)]) rfl sc__law_of_right.nd rfl rfl (sw_true rfl rfl rfl (by decide +kernel)) (pi_listK K (pe_lc (own := [("k", 2)]) rfl sc__law_of_right.nd (pi_range1 rfl m_range (pa_cons (pe_op op_mul (pv 1) (pv 1)) pa_nil)) (blkOk_by (by kernel_rfl)) (fun _ _ _ _ _ => (pg_name (i := 2) sc__law_of_right.nd rfl (.inl rfl))) (fun _ _ _ _ _ => pts_nil) (fun _ _ _ _ _ => (pe_tup (pa_cons (pe_op op_fdivW (pv 2) (pv 1)) (pa_cons (pe_op op_mod (pe_callTy call_intI (by rfl) m_int (by decide +kernel) (pa_cons (pv 2) pa_nil)) (pv 1)) pa_nil)))))) (blkOk_by (by kernel_rfl)) (fun _ _ _ _ _ => (pg_name (i := 10) sc__law_of_right.nd rfl (.inl rfl))) (fun _ _ _ _ _ => pts_one (pt_cmp (pc_dinT K hu (pv 10) (pv 9)))) (fun _ _ _ _ _ => (pv 10)))
    (pss_cons (ps_if (pt_cmpR (op_neC (K := K) hu64) (pv 4) (pe_lst pa_nil) (nomark _))
      (pss_one (ps_ret (pe_cmpR (op_eqC (K := K) hu64) (pv 3) (pe_tup (pa_cons pe_str (pa_cons (pe_dgetT K hu (pv 9) (pe_ix (ix_listK K) (pv 4) pe_int (fun _ _ => rfl)) (fun _ _ => rfl)) (pa_cons pe_bl pa_nil)))) (nomark _))))
      pss_nil)
    (pss_cons (ps_setLc (i := 5) (own := [("a", 11)]) rfl sc__law_of_right.nd rfl rfl (sw_true rfl rfl rfl (by decide +kernel)) (pi_range1 rfl m_range (pa_cons (pv 1) pa_nil)) (blkOk_by (by kernel_rfl)) (fun _ _ _ _ _ => (pg_name (i := 11) sc__law_of_right.nd rfl (.inr rfl))) (fun _ _ _ _ _ => pts_nil) (fun _ _ _ _ _ => (pe_lc (own := [("b", 12)]) rfl sc__law_of_right.nd (pi_range1 rfl m_range (pa_cons (pv 1) pa_nil)) (blkOk_by (by kernel_rfl)) (fun _ _ _ _ _ => (pg_name (i := 12) sc__law_of_right.nd rfl (.inl rfl))) (fun _ _ _ _ _ => pts_nil) (fun _ _ _ _ _ => (pe_op op_mod (pe_callTy call_intI (by rfl) m_int (by decide +kernel) (pa_cons (pe_op op_add (pe_op op_add (pe_op op_mul (pv 11) (pv 8)) (pv 12)) (pv 7)) pa_nil)) (pv 1))))))
    (pss_one (ps_ret (pe_and (pe_cmpR (op_eqC (K := K) hu64) (pd D_law_rows_of_table (hr.mono (by decide)) (by rfl) (pa_cons (pv 3) pa_nil)) (pv 5) (nomark _)) (pe_one (pe_cmpR op_eq (pe_callTy (call_ownStr M_str (hr.mono (by decide))) (by rfl) m_str (by decide +kernel) (pa_cons (pv 3) pa_nil)) (pd D_law_rows_text (hr.mono (by decide)) (by rfl) (pa_cons (pv 5) pa_nil)) (nomark _)))))))))))))), ?_⟩
  show Sw K _ [.v (.ref p), .d (.int (n : Nat)), .u, .u, .u, .u, .u, .u, .u, .u, .u, .u, .u] t _ _
  have rg : ∀ {δ : List SV} (k : Nat), (k : Int) < 100 → EvI K true true δ (iRng1 (tCons (tC (.int (k : Nat))) tNil)) ((span k).map .int) := fun {δ} k hk => by
    have := evi_range1 (K := K) (lv := true) (st := true) (δ := δ) (n := (k : Int)) (eva_cons ev_int eva_nil) (by omega) (by omega)
    rwa [Int.toNat_natCast, rngD_span] at this
  have slen : ∀ k, ((span k).map PyData.int).length = k := fun k => by rw [List.length_map, span_len]
  have lt_ : ∀ {k i : Nat} {d : PyData}, ((span k).map PyData.int)[i]? = some d → i < k := fun {k i d} h => by
    have := (List.getElem?_eq_some_iff.mp h).1
    rwa [slen] at this
  have dr : ∀ {δ : List SV}, δ[0]? = some (.v (.ref p)) → δ[1]? = some (.d (.int (n : Nat))) → Ex K true (some (p, c)) δ (tCall spDraw [] E0 (tCons (tVar 0) (tCons (tVar 1) tNil))) 1 (fun d => ∃ r : Int, d = .int r ∧ OkV n r) := fun h0 h4 => (ex_draw1 h0 (ev_var h4) (by omega) (lg_small (n := n) (by omega))).imp (Nat.le_refl _) fun d hd => by
    obtain ⟨r, rfl, r1, r2⟩ := hd
    exact ⟨r, rfl, r1, r2⟩
  have big : (100 : Int) ≤ 10 ^ (40 : Int).toNat := by decide
  refine sw_seq (sw_newDT (i := 9) (by simp) fun q9 => ?_)
  show Sw K _ [.v (.ref p), .d (.int (n : Nat)), .u, .u, .u, .u, .u, .u, .u, .o q9 (.dt []), .u, .u, .u] t _ _
  refine sw_seq (sw_forRX (n1 := 1) (lim := 2) ((ex_draw1 rfl (s := 3) ev_int (by decide) (by decide)).imp (Nat.le_refl _) fun d hd => ?_) (by omega) fun m hm => ?_)
  · obtain ⟨r, rfl, r0, r1⟩ := hd
    exact ⟨r.toNat, by rw [Int.toNat_of_nonneg r0], by omega⟩
  refine sw_for (vs := [2]) (rg m (by omega)) (fun i δ t' => (∃ es x2, Wrg n es ∧ es.length ≤ i ∧ δ = [.v (.ref p), .d (.int (n : Nat)), x2, .u, .u, .u, .u, .u, .u, .o q9 (.dt es), .u, .u, .u]) ∧ t' ≤ t + 1 + 3 * i) ⟨⟨[], .u, fun x y z h => (by cases h), Nat.le_refl _, rfl⟩, Nat.le_refl _⟩ (fun i d δ t' hd hI => ?_) (fun δ t' hI => ?_)
  · obtain ⟨⟨es, x2, hw, hl, rfl⟩, ht'⟩ := hI
    have hi := lt_ hd
    refine ⟨_, fun q hq => own_put sl_adr q hq, tg_name (by simp), ?_⟩
    refine sw_dputX (i := 9) (n1 := 1) (n2 := 1) (n3 := 1) (P1 := fun z => ¬ OkV n z) (P2 := OkV n) (P3 := OkV n) (by rfl) (by omega) ((ex_callW (m := 0) (n := 1) (RA := fun ds => ds = [.list ([(-1 : Int), n, n + 7, 10 ^ (40 : Int).toNat, -n].map .int)]) rfl (EvA.ex (eva_cons (ev_lst (ds := [(-1 : Int), n, n + 7, 10 ^ (40 : Int).toNat, -n].map .int) (eva_cons (ev_neg ev_int) (eva_cons (ev_var rfl) (eva_cons (ev_op (ev_var rfl) ev_int r2_add) (eva_cons (ev_op ev_int ev_int (r2_pow ⟨by decide, by decide, by decide⟩)) (eva_cons (ev_neg (ev_var rfl)) eva_nil))))) (by simp)) eva_nil)) fun ds h => ⟨_, h, rfl, by simp, by simp⟩).imp (by omega) fun d hd => ?_) (dr rfl rfl) (dr rfl rfl) (by omega) fun z y v pz py pv => ?_
    · obtain ⟨ds, rfl, os, e, ho⟩ := hd
      obtain rfl : _ = os := PyData.list.inj (List.cons.inj e).1
      obtain ⟨z, hz, rfl⟩ := List.mem_map.mp ho
      refine ⟨z, rfl, fun oz => ?_⟩
      unfold OkV at oz
      simp only [List.mem_cons, List.not_mem_nil, or_false] at hz
      generalize (10 : Int) ^ (40 : Int).toNat = b at big hz
      omega
    · exact ⟨⟨_, _, hw.put py pv pz, Nat.le_trans (puT_len _ _ _) (by omega), rfl⟩, by omega⟩
  obtain ⟨⟨es, x2, hw, hl, rfl⟩, ht'⟩ := hI
  rw [slen] at ht' hl
  show Sw K _ _ _ _ _
  refine Sw.fo (δ' := [.v (.ref p), .d (.int (n : Nat)), .u, .u, .u, .u, .u, .u, .u, .o q9 (.dt es), .u, .u, .u]) (.keep (.keep (.un (.keep (.keep (.keep (.keep (.keep (.keep (.keep (.keep (.keep (.keep .nil))))))))))))) ?_
  refine sw_seq (sw_asgTX (lv := true) (vs := [8, 7]) (n := 2) (P := fun d => ∃ a b : Int, d = .tuple [.int a, .int b]) ((ex_tup (exa_cons (dr rfl rfl) fun _ _ => exa_cons (dr rfl rfl) fun _ _ => exa_nil) fun ds h => ?_).imp (by omega) fun d hd => ?_) (by omega) fun d hd => ?_)
  · obtain ⟨_, _, rfl, _, _, _, rfl, _, rfl⟩ := h
    simp
  · obtain ⟨_, rfl, _, _, rfl, ⟨a, rfl, ha⟩, _, _, rfl, ⟨b, rfl, hb⟩, rfl⟩ := hd
    exact ⟨a, b, rfl⟩
  obtain ⟨st, ba, rfl⟩ := hd
  refine ⟨_, tg_tup (tgs_cons (tg_name (by simp)) (tgs_cons (tg_name (by simp)) tgs_nil (own_sub sl_adr _ _)) (own_sub sl_adr _ _)) rfl, fun q hq => own_put sl_adr q (own_put sl_adr q hq), ?_⟩
  show Sw K _ [.v (.ref p), .d (.int (n : Nat)), .u, .u, .u, .u, .u, .d (.int ba), .d (.int st), .o q9 (.dt es), .u, .u, .u] (t' + 2) _ _
  have nn : n * n ≤ 144 := Nat.mul_le_mul h12 h12
  have plc : ∀ {δ : List SV}, δ[1]? = some (.d (.int (n : Nat))) → δ[9]? = some (.o q9 (.dt es)) → δ[2]? = some .u → δ[10]? = some .u → Ev K true δ (tLc (iList K (tLc (iRng1 (tCons (tOp (rI CMul fun i j => .int (i * j)) (tVar 1) (tVar 1)) tNil)) (gName 2) tYes (tTup (tCons (tOp (rI CDivW fun i j => .int (i / j)) (tVar 2) (tVar 1)) (tCons (tOp (rI (fun _ j => 0 < j) fun i j => .int (i % j)) (tCB rIntI (tCons (tVar 2) tNil)) (tVar 1)) tNil))) [2])) (gName 10) (tB (tDInT K (tVar 10) (tVar 9))) (tVar 10) [10]) (.list (((prs n).filter (inW es)).map prD)) := fun {δ} g1 g9 g2 g10 => by
    have l2 : 2 < δ.length := (List.getElem?_eq_some_iff.mp g2).1
    have l10 : 10 < δ.length := (List.getElem?_eq_some_iff.mp g10).1
    have rn : EvI K true true δ (iRng1 (tCons (tOp (rI CMul fun i j => .int (i * j)) (tVar 1) (tVar 1)) tNil)) ((span (n * n)).map .int) := by
      have := evi_range1 (K := K) (lv := true) (st := true) (δ := δ) (n := ((n * n : Nat) : Int)) (eva_cons ((ev_op (ev_var g1) (ev_var g1) (r2_mul (.inl ⟨by omega, by omega⟩))).cast (by rw [Int.natCast_mul])) eva_nil) (by omega) (by omega)
      rwa [Int.toNat_natCast, rngD_span] at this
    refine ev_lc (st := true) (as := prs n) (dat := prD) (fb := inW es) (fv := prD) (evi_list ((ev_map (as := span (n * n)) (dat := PyData.int) (fv := fun z => .tuple [.int (z / (n : Int)), .int (z % (n : Int))]) rn g2 (by rw [span_len]; omega) fun z hz => ev_tup (ds := [.int (z / (n : Int)), .int (z % (n : Int))]) (eva_cons (ev_op (ev_var (List.getElem?_set_self l2)) (ev_var (by rw [List.getElem?_set_ne (by decide)]; exact g1)) (r2_fdiv (by omega) (lg_small (n := n) (by omega)))) (eva_cons (ev_op (ev_cb (eva_cons (ev_var (List.getElem?_set_self l2)) eva_nil) ra_intI) (ev_var (by rw [List.getElem?_set_ne (by decide)]; exact g1)) (r2_mod (by omega))) eva_nil)) (by simp)).cast (d := .list ((prs n).map prD)) (by unfold prs; rw [List.map_map]; rfl))) (by simp [g10, SV.isU]) (by unfold prs; rw [List.length_map, span_len]; omega) fun z hz => ⟨δ.set 10 (.d (prD z)), own_eq (s := .d (prD z)) (t := .u) rfl _ _ g10, tg_name (by simp), evb_inT (lv := true) (by rw [List.getElem?_set_ne (by decide)]; exact g9) (ev_var (List.getElem?_set_self l10)), fun _ => ev_var (List.getElem?_set_self l10)⟩
  refine sw_assoc (sw_seq (sw_defTried (n := n) (ba := ba) (st := st) (es := es) (dd := q9) (by rfl) (by rfl) (by rfl) (by rfl) (by simp) (by simp) h1 (by omega) (fun ok f p' dx A rs => ?_) (fun i j hi hj bf nb f => ?_)))
  · have none_ : ∀ x y, OkV n x → OkV n y → lkT es (key2 x y) = none := fun x y ox oy => by
      cases e : lkT es (key2 x y) with
      | none => rfl
      | some z => exact absurd (by rw [← (opV_bad (ba := ba) (st := st) hw e).1]; exact ok x y ox oy) (opV_bad (ba := ba) (st := st) hw e).2
    have eM : opM n (opV es ba n st) = opM n fun a b => (a * st + b + ba) % (n : Int) := by
      unfold opM
      refine List.map_congr_left fun a ha => List.map_congr_left fun b hb => ?_
      exact (opV_ok h1 (none_ a b (mem_span.mp ha) (mem_span.mp hb))).1
    have tM : Tbl n (opM n (opV es ba n st)) := opM_tbl ok
    rw [eM] at tM ⊢
    clear eM
    show Sw K _ [.v (.ref p), .d (.int (n : Nat)), .u, .o p' (.tab C dx A rs (opM n fun a b => (a * st + b + ba) % (n : Int))), .u, .u, .v (.ref f), .d (.int ba), .d (.int st), .o q9 (.dt es), .u, .u, .u] (t' + 2) _ _
    refine sw_seq (sw_asg (i := 4) (lv := true) (plc rfl rfl rfl rfl) ?_)
    rw [places_none none_]
    show Sw K _ [.v (.ref p), .d (.int (n : Nat)), .u, .o p' (.tab C dx A rs (opM n fun a b => (a * st + b + ba) % (n : Int))), .d (.list []), .u, .v (.ref f), .d (.int ba), .d (.int st), .o q9 (.dt es), .u, .u, .u] (t' + 2) _ _
    refine sw_seq (sw_if (c := false) ((evb_T (lv := true) (ev_op (ev_var (d := .list (([] : List (Int × Int)).map prD)) rfl) (ev_lst eva_nil (by simp)) (ne_pairs []))).cast (by simp)) (fun h => by cases h) fun _ => sw_next ?_)
    have rgn : ∀ {δ : List SV}, δ[1]? = some (.d (.int (n : Nat))) → EvI K true true δ (iRng1 (tCons (tVar 1) tNil)) ((span n).map .int) := fun {δ} g1 => by
      have := evi_range1 (K := K) (lv := true) (st := true) (δ := δ) (n := (n : Int)) (eva_cons (ev_var g1) eva_nil) (by omega) (by omega)
      rwa [Int.toNat_natCast, rngD_span] at this
    refine sw_seq (sw_asg (i := 5) (lv := true) (d := mD (opM n fun a b => (a * st + b + ba) % (n : Int))) ((ev_map (as := span n) (dat := PyData.int) (fv := fun a => .list (((span n).map fun b => (a * st + b + ba) % (n : Int)).map .int)) (rgn rfl) rfl (by rw [span_len]; omega) fun a ha => ev_mapI (rgn rfl) rfl (by omega) fun b ob => ev_op (ev_cb (eva_cons (ev_op (ev_op (ev_op (ev_var rfl) (ev_var rfl) (r2_mul (.inl ⟨?_, ?_⟩))) (ev_var rfl) r2_add) (ev_var rfl) r2_add) eva_nil) ra_intI) (ev_var rfl) (r2_mod (by omega))).cast (by unfold mD opM; rw [List.map_map]; rfl)) ?_)
    · have := mem_span.mp ha; unfold OkV at this; omega
    · have := mem_span.mp ha; unfold OkV at this; omega
    generalize (opM n fun a b => (a * st + b + ba) % (n : Int)) = M at tM ⊢
    show Sw K _ [.v (.ref p), .d (.int (n : Nat)), .u, .o p' (.tab C dx A rs M), .d (.list []), .d (mD M), .v (.ref f), .d (.int ba), .d (.int st), .o q9 (.dt es), .u, .u, .u] (t' + 2) _ _
    refine sw_ret (lv := true) (d := .bool true) (((ev_andV (lv := false) (ev_op (ev_call (F := pROT C) (eva_cons (ev_tab (i := 3) rfl) eva_nil) ⟨n, M, rfl, tM, by omega, rfl⟩) (ev_var (i := 5) (d := mD M) rfl) r2_eqM) fun _ => ev_op (ev_cb (eva_cons (ev_tab (i := 3) rfl) eva_nil) (ra_ownStr (F := pTS C) (s := tabT M) ⟨n, M, rfl, tM, by omega, rfl⟩)) (ev_call (F := pRT) (d := .str (tabT M)) (eva_cons (ev_var (i := 5) (d := mD M) rfl) eva_nil) ⟨n, M, rfl, tM, by omega, rfl⟩) r2_eqS).cast (by simp)).flat rfl) ⟨rfl, by omega⟩
  · have bef : ∀ x y : Nat, x < n → y < n → Bef x y i j → lkT es (key2 x y) = none := fun x y hx hy hb => by
      cases e : lkT es (key2 x y) with
      | none => rfl
      | some z => exact absurd (by rw [← (opV_bad (ba := ba) (st := st) hw e).1]; exact bf x y hx hy hb) (opV_bad (ba := ba) (st := st) hw e).2
    obtain ⟨z, hz⟩ : ∃ z, lkT es (key2 i j) = some z := by
      cases e : lkT es (key2 i j) with
      | none => exact absurd (opV_ok (ba := ba) (st := st) h1 e).2 nb
      | some z => exact ⟨z, rfl⟩
    rw [(opV_bad (ba := ba) (st := st) hw hz).1]
    show Sw K _ [.v (.ref p), .d (.int (n : Nat)), .u, .d (.tuple [.str "value", .int z, .bool true]), .u, .u, .v (.ref f), .d (.int ba), .d (.int st), .o q9 (.dt es), .u, .u, .u] (t' + 2) _ _
    refine sw_seq (sw_asg (i := 4) (lv := true) (plc rfl rfl rfl rfl) ?_)
    have hd := places_first hi hj hz bef
    generalize (prs n).filter (inW es) = ps at hd ⊢
    show Sw K _ [.v (.ref p), .d (.int (n : Nat)), .u, .d (.tuple [.str "value", .int z, .bool true]), .d (.list (ps.map prD)), .u, .v (.ref f), .d (.int ba), .d (.int st), .o q9 (.dt es), .u, .u, .u] (t' + 2) _ _
    have vk : EqOk (.tuple [.str "value", .int z, .bool true]) (.tuple [.str "value", .int z, .bool true]) := ⟨rfl, rfl, by simp [PyData.canLay0, PyData.canLayAll0]; decide +kernel, by simp [PyData.canLay0, PyData.canLayAll0]; decide +kernel, by simp [PyData.depth, PyData.depthAll]⟩
    have ve : PyData.eqv (.tuple [.str "value", .int z, .bool true]) (.tuple [.str "value", .int z, .bool true]) = true := by simp [PyData.eqv, PyData.eqvAll]
    refine sw_seq (sw_if (c := true) ((evb_T (lv := true) (ev_op (ev_var (d := .list (ps.map prD)) rfl) (ev_lst eva_nil (by simp)) (ne_pairs ps))).cast (by cases ps with | nil => cases hd | cons a r => rfl)) (fun _ => ?_) (fun h => by cases h))
    refine sw_ret (lv := true) (d := .bool true) ((ev_op (ev_var (d := .tuple [.str "value", .int z, .bool true]) rfl) (ev_tup (ds := [.str "value", .int z, .bool true]) (eva_cons ev_str (eva_cons (ev_getT (lv := true) (j := 9) (by rfl) (ev_op (ev_var (d := .list (ps.map prD)) rfl) ev_int (r2_ix (n := 0) (by cases ps with | nil => cases hd | cons a r => cases hd; rfl))) hz) (eva_cons ev_bl eva_nil))) (by simp)) (r2_eqC vk)).cast (by rw [ve])) ⟨rfl, by omega⟩
end
end Fp

namespace Fp
open PySem PySem.Spec PyProof.Rows L2 Fd
local macro_rules | `(tactic| walk_at "rd") => `(tactic| simp only [cxK, cxKn, tRet, tRetN, rIntI, rIntB, rLenL, rListL, rListT, rAbs, tDisp, tPairs, tC, tCB, tCons, tNil, tSl, tVar, tNoPart, tPart, rSlL, tOp, tAsg, gName, tIfS, tDrop, tTest, tAnd, tOr, Evl.tCut, tNot, tB, rI0, rI, rIxL, rIxT, rIxD, tDGet, sDPut, tLst, tTup, tBM, tBM0, tPar, rAppend, rPopAt, rPop, rExtend, rTupL, tCall, tNext, rAll, rOwnIn, rOwn2, rCat, lc_iL, lc_iT, lc_iK, lc_iR, lc_iE, fr_iL, fr_iT, fr_iR, tYes, rIn, rEq, rNe, gTup, gCons, gNil, wipe, tMeth, tFld, sFld, tMake, tProp, tIf, tAndV, tOrV, tNotV, tTru, rIsi, rSum, tRevL, rU, tUn, rIxS, iEnum, if_true, if_false, Bool.false_eq_true, List.map_cons, List.map_nil, List.nil_append, List.append_nil, List.cons_append, List.getElem?_cons_zero, List.getElem?_cons_succ, Option.some.injEq, exists_and_left, exists_eq_left', exists_eq_left, List.cons.injEq, and_true, true_and, V.ref.injEq, V.int.injEq, V.str.injEq, V.bl.injEq, List.set_cons_zero, List.set_cons_succ])
local macro_rules | `(tactic| walk_at "ev") => `(tactic| (repeat' (first | (with_reducible first | exact ev_int | exact ev_str | exact ev_bl | exact ev_non | exact eva_nil | apply eva_cons | exact r2_add | exact r2_sub | exact r2_lt | exact r2_le | exact r2_gt | exact r2_ge | exact r2_eqI | exact r2_neI | exact r2_eqS | exact r2_neS | exact ra_len | exact ra_intI | exact ra_list | apply ev_op | apply ev_cb | apply evb_T (lv := true) | apply evb_B (lv := true) | apply evb_not) | ((with_reducible apply ev_var); exact rfl))))
section
variable {K : PySem.W.Frag} {P : Program} {w : World} {base : Heap} {mg : Str → Option Value} {C FE CT CV CS : Addr}
section
variable {lv : Bool} {W : Wd} {δ : List SV} {t : Nat} {i : Nat} {s : Int} {n : Nat} {z0 CS : Addr}
theorem ra_abs {j : Int} : RAd K rAbs [.int j] (.int (j.natAbs : Nat)) := fun Z H vs al h Q q => by
  obtain ⟨v, rfl, hv⟩ := h.one
  obtain rfl := hv.num
  refine ⟨j, rfl, ?_⟩
  rw [show (if j < 0 then -j else j) = ((j.natAbs : Nat) : Int) by split <;> omega]
  exact q _ H (Same.refl _) (.int _)
theorem evn_makeTR {E : XK} (h : δ[i]? = some (.d (.int (n : Nat)))) (h1 : 1 ≤ n) (h2 : n ≤ 60) : EvN K δ (tMake C (spTNR C CS) [] E (tCons (tVar i) tNil)) (fun x => ∃ dx A rs, x = .tab C dx A rs (zeroM n)) := fun Z H σ al r Q q => by
  obtain ⟨v, hv, hk⟩ := evn_makeT (C := C) (E0 := E) (ev_var (lv := true) (K := K) h) h1 h2 Z H σ al r Q q
  exact ⟨v, hv, fun x dx a b c => .inl (hk x dx a b c)⟩
theorem evr_makeBad (h : δ[i]? = some (.d (.int s))) (hs : ¬(1 ≤ s ∧ s ≤ 60)) : EvR K lv δ (fun E => tMake C (spTNR C CS) [] E (tCons (tVar i) tNil)) (fun _ => False) (fun CE fs => CE = CS ∧ fs = [(("size" : Str), .int s)]) := fun Z H σ al r E Q q qe => by
  obtain ⟨v, hv, d⟩ := r.ok i _ h
  cases d
  refine ⟨_, hv, fun x dx hx hdx ne => .inr ⟨x, dx, s, rfl, upd_same, hs, fun dd H' hd e hx' => ?_⟩⟩
  have hdd : H dd = none := by
    have n1 : dd ≠ x := fun w => by rw [w, upd_same] at hd; cases hd
    have n2 : dd ≠ dx := fun w => by rw [w, upd_ne ne, upd_same] at hd; cases hd
    rw [upd_ne n1, upd_ne n2] at hd
    exact hd
  exact qe CS [(("size" : Str), .int s)] [.int s] dd H' ⟨rfl, rfl⟩ hdd ((same_make hx hdx).trans e) hx' (.cons (.int _) .nil)
theorem evr_ofBad (h : δ[i]? = some (.d (.int s))) (hs : ¬(1 ≤ s ∧ s ≤ 60)) : EvR K lv δ (fun E => ClX.tCMeth C (spOfBad C CS) E (tC (.ref C)) (tCons (tVar i) (tCons (tC (.ref z0)) tNil))) (fun _ => False) (fun CE fs => CE = CS ∧ fs = [(("size" : Str), .int s)]) := fun Z H σ al r E Q q qe => by
  obtain ⟨v, hv, d⟩ := r.ok i _ h
  cases d
  exact ⟨rfl, _, hv, s, .ref z0, rfl, hs, fun dd H' hd e hx' => qe CS [(("size" : Str), .int s)] [.int s] dd H' ⟨rfl, rfl⟩ hd e hx' (.cons (.int _) .nil)⟩
end
def szD (s : Int) : PyData := .tuple [.str "size", .int s, .bool true]
theorem sz_ok (s : Int) : EqOk (szD s) (szD s) := ⟨rfl, rfl, by simp [szD, PyData.canLay0, PyData.canLayAll0]; decide +kernel, by simp [szD, PyData.canLay0, PyData.canLayAll0]; decide +kernel, by simp [szD, PyData.depth, PyData.depthAll]⟩
theorem sz_eq (s : Int) : PyData.eqv (szD s) (szD s) = true := by simp [szD, PyData.eqv, PyData.eqvAll]
abbrev s_law : Stmt := topS 22
theorem sc_law : FnScope ["script", "pen", "turn", "made", "near", "size"] ["script"] (defScope s_law) := ⟨rfl, rfl, rfl, by decide +kernel, rfl, by decide +kernel, by decide +kernel⟩
theorem ok_law {f CV CS z0 : Addr} {T : List NdefX.NTab} {oc kV doc pm cdv ct : Value} {od an : Option Addr} {osl : Array (Option Value)}
    (lk : K.lookup f = some ⟨oc, od, .func (PySem.W.fnOf "law" "law" (defArgs s_law) (defBody s_law) (defScope s_law) .none kV doc pm an cdv ct), osl⟩) (hcd : PySem.W.codeIn K cdv "law" = true) (MK : MakN base mg T cdv (fun _ _ => "law" ++ ".<locals>." ++ "<lambda>")) (TX : TxT K mg C)
    (m_range : mg "range" = none) (m_int : mg "int" = none) (m_abs : mg "abs" = none) (m_Table : mg "Table" = some (.ref C)) (m_law_zero : mg "_law_zero" = some (.ref z0))
    (L_tried : LcOk P w K mg base "_law_tried" (TTd (TL26 CV CS))) (D_law_pen : Dn P w K mg base 1 "_law_pen" ["script"] (spPen K)) (D_law_draw : Dn P w K mg base 1 "_law_draw" ["pen", "span"] spDraw) (D_law_pick : Dn P w K mg base 2 "_law_pick" ["pen", "options"] (spW K pPiP pPiR))
    (D_law_rows_of_table : Dn P w K mg base 4 "_law_rows_of_table" ["made"] (spV K (pROT C))) (D_law_of_right : Dn P w K mg base 8 "_law_of_right" ["pen", "size"] (spWT K T pOrP pOrR)) (N_Table : Ke P w K mg base 3 C ["self", "size"] [] (spTNR C CS)) (M_of : Ce P w K mg base 5 C "of" (spOfBad C CS)) :
    FnG P w K mg base CX0 10 f (PySem.W.fnOf "law" "law" (defArgs s_law) (defBody s_law) (defScope s_law) .none kV doc pm an cdv ct) ["script"] (spLawT K T) := by
  refine fnG_cd lk hcd sc_law (fun vs H Q E h => ?_) (fun A outer s H vs Q E hr h => ?_)
  · obtain ⟨a, ns, rfl, _⟩ := h
    rfl
  · obtain ⟨a, ns, rfl, hS, hlen, hT, q⟩ := h
    have hu64 := hr.r.units
    refine ⟨_, (pss_cons (ps_set (i := 1) sc_law.nd rfl (.inl rfl) (pd D_law_pen (hr.r.mono (by decide)) (by rfl) (pa_cons (pv 0) pa_nil)))
    (pss_cons (ps_for PassesOwn.never rfl (pi_range1 rfl m_range (pa_cons pe_int pa_nil)) (pg_name (i := 2) sc_law.nd rfl (.inl rfl))
      (pss_cons (ps_set (i := 5) sc_law.nd rfl (.inr rfl) (pd D_law_pick (hr.r.mono (by decide)) (by rfl) (pa_cons (pv 1) (pa_cons (pe_lst (pa_cons pe_int (pa_cons (pe_un un_neg pe_int) (pa_cons pe_int (pa_cons pe_int (pa_cons pe_int (pa_cons pe_int (pa_cons pe_int (pa_cons (pe_un un_neg pe_int) (pa_cons (pe_op op_pow pe_int pe_int) (pa_cons (pe_un un_neg (pe_op op_pow pe_int pe_int)) (pa_cons (pe_op op_add pe_int (pd D_law_draw (hr.r.mono (by decide)) (by rfl) (pa_cons (pv 1) (pa_cons pe_int pa_nil)))) pa_nil)))))))))))) pa_nil))))
        (pss_cons (ps_set (i := 3) sc_law.nd rfl (.inl rfl) (pe_lcallB (T := T) (TT := TTd (TL26 CV CS)) (t := fun E => tMake C (spTNR C CS) [] E (tCons (tVar 5) tNil)) L_tried (by rfl) MK rfl (hr.r.mono (by decide)) rfl rfl (fun _ _ _ _ _ => rfl) (fun A outer s H E f c1 hr2 => pke N_Table hr2 (by rfl) m_Table (passes_call (takes_of rfl rfl rfl rfl) fun _ _ _ _ h => h) (pa_cons (pv 5) pa_nil))))
        (pss_cons (ps_if (pt_not (pt_chain op_le op_le pe_int (pv 5) pe_int))
      (pss_cons (ps_set (i := 4) sc_law.nd rfl (.inr rfl) (pe_ifExp (pt_cmpR op_lt (pe_callB call_absI (by rfl) m_abs (by decide +kernel) (pa_cons (pv 5) pa_nil)) pe_int (nomark _)) (pv 5) pe_int))
        (pss_one (ps_if (PW.pt (pw_or (pt_cmpR (op_neC (K := K) hu64) (pv 3) (pe_tup (pa_cons pe_str (pa_cons (pv 5) (pa_cons pe_bl pa_nil)))) (nomark _)) (pw_or1 (pt_cmpR (op_neC (K := K) hu64) (pe_lcallB (T := T) (TT := TTd (TL26 CV CS)) (t := fun E => ClX.tCMeth C (spOfBad C CS) E (tC (.ref C)) (tCons (tVar 4) (tCons (tC (.ref z0)) tNil))) L_tried (by rfl) MK rfl (hr.r.mono (by decide)) rfl rfl (fun _ _ _ _ _ => rfl) (fun A outer s H E f c1 hr2 => pce M_of hr2 (passes_call (takes_of rfl rfl rfl rfl) fun _ _ _ _ h => h) (pe_glob rfl m_Table (v := .ref C) rfl) (pa_cons (pv 4) (pa_cons (pe_glob rfl m_law_zero (v := .ref z0) rfl) pa_nil)))) (pe_tup (pa_cons pe_str (pa_cons (pv 4) (pa_cons pe_bl pa_nil)))) (nomark _)))))
      (pss_one (ps_ret pe_bl))
      pss_nil)))
      (pss_one (ps_if (PW.pt (pw_or (pt_cmpR op_ne (pe_fldK K (pv 3) rfl) (pv 5) (nomark _)) (pw_or1 (pt_cmpR (op_neC (K := K) hu64) (pd D_law_rows_of_table (hr.r.mono (by decide)) (by rfl) (pa_cons (pv 3) pa_nil)) (pe_op op_rep (pe_lst (pa_cons (pe_op op_rep (pe_lst (pa_cons pe_int pa_nil)) (pv 5)) pa_nil)) (pv 5)) (nomark _)))))
      (pss_one (ps_ret pe_bl))
      pss_nil)))
        (pss_one (ps_if (pt_not (pt_val (pd D_law_of_right (hr.r.mono (by decide)) (by rfl) (pa_cons (pv 1) (pa_cons (pe_op op_add pe_int (pe_op op_mod (pe_callTy call_intI (by rfl) m_int (by decide +kernel) (pa_cons (pv 5) pa_nil)) pe_int)) pa_nil)))))
      (pss_one (ps_ret pe_bl))
      pss_nil))))))
    (pss_one (ps_ret pe_bl)))), ?_⟩
    refine law_goT (m := 4) hS hlen hT q fun p c hc => ?_
    subst hc
    show Sw K _ [.u, .v (.ref p), .u, .u, .u, .u] 0 _ _
    have rg : ∀ {δ : List SV} (k : Nat), (k : Int) < 100 → EvI K true true δ (iRng1 (tCons (tC (.int (k : Nat))) tNil)) ((span k).map .int) := fun {δ} k hk => by
      have := evi_range1 (K := K) (lv := true) (st := true) (δ := δ) (n := (k : Int)) (eva_cons ev_int eva_nil) (by omega) (by omega)
      rwa [Int.toNat_natCast, rngD_span] at this
    have lt_ : ∀ {k i : Nat} {d : PyData}, ((span k).map PyData.int)[i]? = some d → i < k := fun {k i d} h => by
      have := (List.getElem?_eq_some_iff.mp h).1
      rwa [List.length_map, span_len] at this
    refine sw_seq (sw_for (vs := [2]) (rg 10 (by omega)) (fun i δ t' => (∃ x2 x3 x4 x5, δ = [.u, .v (.ref p), x2, x3, x4, x5]) ∧ t' ≤ 20 * i) ⟨⟨_, _, _, _, rfl⟩, Nat.le_refl _⟩ (fun i d δ t' hd hI => ?_) (fun δ t' hI => ?_))
    · obtain ⟨⟨x2, x3, x4, x5, rfl⟩, ht⟩ := hI
      have hi := lt_ hd
      refine ⟨_, fun q hq => own_put sl_adr q hq, tg_name (by simp), ?_⟩
      refine Sw.fo (δ' := [.u, .v (.ref p), .u, .u, .u, .u]) (.keep (.keep (.un (.un (.un (.un .nil)))))) ?_
      refine sw_seq (sw_asgX (lv := true) (n := 2) (P := fun d => ∃ s : Int, d = .int s) ((ex_callW (m := 1) (n := 1) (RA := fun ds => ∃ zs : List Int, ds = [.list (zs.map .int)] ∧ zs.length = 11) rfl ((exa_cons (m := 1) (n := 0) (ex_lst (n := 1) (RA := fun ds => ∃ zs : List Int, ds = zs.map .int ∧ zs.length = 11) ((exa_cons (m := 0) (Ev.ex ev_int) fun _ _ => exa_cons (m := 0) (Ev.ex (ev_neg ev_int)) fun _ _ => exa_cons (m := 0) (Ev.ex ev_int) fun _ _ => exa_cons (m := 0) (Ev.ex ev_int) fun _ _ => exa_cons (m := 0) (Ev.ex ev_int) fun _ _ => exa_cons (m := 0) (Ev.ex ev_int) fun _ _ => exa_cons (m := 0) (Ev.ex ev_int) fun _ _ => exa_cons (m := 0) (Ev.ex (ev_neg ev_int)) fun _ _ => exa_cons (m := 0) (Ev.ex (ev_op ev_int ev_int (r2_pow ⟨by decide, by decide, by decide⟩))) fun _ _ => exa_cons (m := 0) (Ev.ex (ev_neg (ev_op ev_int ev_int (r2_pow ⟨by decide, by decide, by decide⟩)))) fun _ _ => exa_cons (m := 1) (n := 0) (R := fun d => ∃ z : Int, d = .int z) ((ex_op (m := 0) (n := 1) (Ev.ex ev_int) (fun x hx => ex_draw1 rfl (s := 60) ev_int (by decide) (by decide)) (fun x y hx hy => ?_)).imp (by omega) fun d h => h) fun _ _ => exa_nil).imp (by omega) fun ds h => ?_) fun ds h => ?_) fun _ _ => exa_nil).imp (by omega) fun ds h => ?_) fun ds h => ?_).imp (by omega) fun d hd => ?_) (by omega) fun d hd => ?_)
      · obtain ⟨r, rfl, _, _⟩ := hy
        subst hx
        exact ⟨_, r2_add, _, rfl⟩
      · obtain ⟨_, _, rfl, rfl, _, _, rfl, rfl, _, _, rfl, rfl, _, _, rfl, rfl, _, _, rfl, rfl, _, _, rfl, rfl, _, _, rfl, rfl, _, _, rfl, rfl, _, _, rfl, rfl, _, _, rfl, rfl, _, _, rfl, ⟨z, rfl⟩, rfl⟩ := h
        exact ⟨[_, _, _, _, _, _, _, _, _, _, z], rfl, rfl⟩
      · obtain ⟨zs, rfl, hl⟩ := h
        rw [List.length_map, hl]; decide
      · obtain ⟨_, _, rfl, ⟨_, rfl, zs, rfl, hl⟩, rfl⟩ := h
        exact ⟨zs, rfl, hl⟩
      · obtain ⟨zs, rfl, hl⟩ := h
        exact ⟨_, rfl, rfl, by rw [List.length_map, hl]; decide, by rw [List.length_map, hl]; decide⟩
      · obtain ⟨ds, ⟨zs, rfl, hl⟩, os, e, ho⟩ := hd
        obtain rfl : _ = os := PyData.list.inj (List.cons.inj e).1
        obtain ⟨z, _, rfl⟩ := List.mem_map.mp ho
        exact ⟨z, rfl⟩
      obtain ⟨s, rfl⟩ := hd
      show Sw K _ [.u, .v (.ref p), .u, .u, .u, .d (.int s)] (t' + 2) _ _
      refine sw_assoc (sw_seq (Sw.imp (R := fun o t2 => t2 = t' + 2 ∧ ∃ x3 x4, o = .nx [.u, .v (.ref p), .u, x3, x4, .d (.int s)]) ?_ fun o t2 ho => ?_))
      · by_cases hs : 1 ≤ s ∧ s ≤ 60
        · obtain ⟨n, rfl⟩ : ∃ n : Nat, s = (n : Int) := ⟨s.toNat, by omega⟩
          have n1 : 1 ≤ n := by omega
          have n60 : n ≤ 60 := by omega
          have tM := zero_tbl n1
          refine sw_seq (sw_triedN (i := 3) (fun E => evn_makeTR (i := 5) (n := n) rfl n1 n60) (by simp) fun p3 x hx => ?_)
          obtain ⟨dx, A3, rs, rfl⟩ := hx
          show Sw K _ [.u, .v (.ref p), .u, .o p3 (.tab C dx A3 rs (zeroM n)), .u, .d (.int (n : Nat))] (t' + 2) _ _
          refine sw_if (c := false) ((evb_not (evb_T (lv := true) (ev_chain ev_int (ev_var rfl) ev_int r2_le r2_le))).cast (by simp; omega)) (fun h => by cases h) fun _ => ?_
          refine sw_if (c := false) (evb_or (a := false) (b := false) ((evb_T (lv := false) (ev_op (ev_fld TX.cl TX.nS (ev_tab (i := 3) rfl) (tbF_size (zeroM n))) (ev_var (i := 5) rfl) r2_neI)).cast (by rw [zero_len]; simp)) fun _ => (evb_T (lv := false) (ev_op (ev_call (F := pROT C) (eva_cons (ev_tab (i := 3) rfl) eva_nil) ⟨n, zeroM n, rfl, tM, n60, rfl⟩) ((ev_op (ev_lst (ds := [_]) (eva_cons (ev_op (ev_lst (ds := [.int 0]) (eva_cons ev_int eva_nil) (by simp)) (ev_var (i := 5) rfl) (r2_rep (by simp; omega) (by omega) (by omega))) eva_nil) (by simp)) (ev_var (i := 5) rfl) (r2_rep (by simp; omega) (by omega) (by omega))).cast (d := mD (zeroM n)) (by unfold mD zeroM; simp)) r2_neM)).cast (by simp)) (fun h => by cases h) fun _ => sw_next ⟨rfl, _, _, rfl⟩
        · refine sw_seq (sw_asgX (i := 3) (lv := true) (n := 0) (P := fun d => d = szD s) (ex_triedF (evr_makeBad (lv := true) (i := 5) (s := s) rfl hs) (fun d h => h.elim) fun CE fs h => ?_) (by omega) fun d hd => ?_)
          · obtain ⟨rfl, rfl⟩ := h
            exact ⟨"size", s, "size", rfl, by simp [TL26], rfl⟩
          obtain rfl := hd
          show Sw K _ [.u, .v (.ref p), .u, .d (szD s), .u, .d (.int s)] (t' + 2 + 0) _ _
          refine sw_if (c := true) ((evb_not (evb_T (lv := true) (ev_chain ev_int (ev_var rfl) ev_int r2_le r2_le))).cast (by simp; omega)) (fun _ => ?_) (fun h => by cases h)
          refine sw_seq (sw_asg (i := 4) (lv := true) (d := .int (if s.natAbs < 100 then s else 61)) ((ev_if (b := decide ((s.natAbs : Int) < 100)) (x := .int s) (y := .int 61) (evb_T (lv := true) (ev_op (ev_cb (eva_cons (ev_var rfl) eva_nil) ra_abs) ev_int r2_lt)) (fun _ => ev_var rfl) fun _ => ev_int).cast ?_) ?_)
          · by_cases w : s.natAbs < 100
            · rw [if_pos w, if_pos (decide_eq_true (by omega))]
            · rw [if_neg w, if_neg (by simp; omega)]
          have hr' : ¬(1 ≤ (if s.natAbs < 100 then s else 61) ∧ (if s.natAbs < 100 then s else 61) ≤ 60) := by split <;> omega
          generalize (if s.natAbs < 100 then s else 61) = r at hr'
          show Sw K _ [.u, .v (.ref p), .u, .d (szD s), .d (.int r), .d (.int s)] (t' + 2 + 0) _ _
          refine sw_ifB (n := 0) (P := fun b => b = false) (exb_or (c := false) ((evb_T (lv := true) (ev_op (ev_var (d := szD s) rfl) (ev_tup (ds := [.str "size", .int s, .bool true]) (eva_cons ev_str (eva_cons (ev_var rfl) (eva_cons ev_bl eva_nil))) (by simp)) (r2_neC (sz_ok s)))).cast (congrArg (fun b => !b) (sz_eq s))) (fun h => by cases h) fun _ => exb_T (lv := true) (R := fun d => d = .bool false) (ex_op (m := 0) (n := 0) (R := fun d => d = szD r) (ex_triedF (evr_ofBad (lv := true) (i := 4) (s := r) rfl hr') (fun d h => h.elim) fun CE fs h => ?_) (fun x hx => Ev.ex (ev_tup (ds := [.str "size", .int r, .bool true]) (eva_cons ev_str (eva_cons (ev_var rfl) (eva_cons ev_bl eva_nil))) (by simp))) fun x y hx hy => ?_) fun d h => ⟨false, h, rfl⟩) (by omega) (fun h => by cases h) fun _ => sw_next ⟨rfl, _, _, rfl⟩
          · obtain ⟨rfl, rfl⟩ := h
            exact ⟨"size", r, "size", rfl, by simp [TL26], rfl⟩
          · obtain rfl := hx
            obtain rfl := hy
            exact ⟨_, r2_neC (sz_ok r), congrArg (fun b => PyData.bool (!b)) (sz_eq r)⟩
      · obtain ⟨rfl, x3, x4, rfl⟩ := ho
        have e12 : (((1 + s % 12).toNat : Nat) : Int) = 1 + s % 12 := Int.toNat_of_nonneg (by have := Int.emod_nonneg s (show (12 : Int) ≠ 0 by decide); omega)
        have l12 : s % 12 < 12 := Int.emod_lt_of_pos _ (by decide)
        have g12 := Int.emod_nonneg s (show (12 : Int) ≠ 0 by decide)
        show Sw K _ [.u, .v (.ref p), .u, x3, x4, .d (.int s)] (t' + 2) _ _
        refine sw_ifB (n := 9) (P := fun b => b = false) (exb_not (exb_B (lv := true) ((ex_callWT (i := 1) (m := 0) (n := 9) (RA := fun ds => ds = [.int ((1 + s % 12).toNat : Nat)]) rfl (EvA.ex (eva_cons ((ev_op ev_int (ev_op (ev_cb (eva_cons (ev_var rfl) eva_nil) ra_intI) ev_int (r2_mod (by decide))) r2_add).cast (by rw [e12])) eva_nil)) fun ds h => ⟨_, h, by omega, by omega, rfl⟩).imp (by omega) fun d h => h) fun d h => ?_)) (by omega) (fun h => by cases h) fun _ => sw_next ⟨⟨_, _, _, _, rfl⟩, by omega⟩
        obtain ⟨_, _, hd⟩ := h
        exact ⟨true, hd, rfl⟩
    · obtain ⟨⟨x2, x3, x4, x5, rfl⟩, ht⟩ := hI
      exact sw_ret (lv := true) ev_bl rfl
end
end Fp

namespace Fp
open PySem PySem.Spec PyProof.Rows L2 Fd
local macro_rules | `(tactic| walk_at "rd") => `(tactic| simp only [cxK, cxKn, tRet, tRetN, rIntI, rIntB, rLenL, rListL, rListT, rAbs, tDisp, tPairs, tC, tCB, tCons, tNil, tSl, tVar, tNoPart, tPart, rSlL, tOp, tAsg, gName, tIfS, tDrop, tTest, tAnd, tOr, Evl.tCut, tNot, tB, rI0, rI, rIxL, rIxT, rIxD, tDGet, sDPut, tLst, tTup, tBM, tBM0, tPar, rAppend, rPopAt, rPop, rExtend, rTupL, tCall, tNext, rAll, rOwnIn, rOwn2, rCat, lc_iL, lc_iT, lc_iK, lc_iR, lc_iE, fr_iL, fr_iT, fr_iR, tYes, rIn, rEq, rNe, gTup, gCons, gNil, wipe, tMeth, tFld, sFld, tMake, tProp, tIf, tAndV, tOrV, tNotV, tTru, rIsi, rSum, tRevL, rU, tUn, rIxS, iEnum, if_true, if_false, Bool.false_eq_true, List.map_cons, List.map_nil, List.nil_append, List.append_nil, List.cons_append, List.getElem?_cons_zero, List.getElem?_cons_succ, Option.some.injEq, exists_and_left, exists_eq_left', exists_eq_left, List.cons.injEq, and_true, true_and, V.ref.injEq, V.int.injEq, V.str.injEq, V.bl.injEq, List.set_cons_zero, List.set_cons_succ])
local macro_rules | `(tactic| walk_at "ev") => `(tactic| (repeat' (first | (with_reducible first | exact ev_int | exact ev_str | exact ev_bl | exact ev_non | exact eva_nil | apply eva_cons | exact r2_add | exact r2_sub | exact r2_lt | exact r2_le | exact r2_gt | exact r2_ge | exact r2_eqI | exact r2_neI | exact r2_eqS | exact r2_neS | exact ra_len | exact ra_intI | exact ra_list | apply ev_op | apply ev_cb | apply evb_T (lv := true) | apply evb_B (lv := true) | apply evb_not) | ((with_reducible apply ev_var); exact rfl))))
section
variable {K : PySem.W.Frag} {P : Program} {w : World} {base : Heap} {mg : Str → Option Value} {C FE CT CV CS : Addr}
abbrev s__law_pen : Stmt := topS 14
theorem sc__law_pen : FnScope ["script"] ["script"] (defScope s__law_pen) := ⟨rfl, rfl, rfl, by decide +kernel, rfl, by decide +kernel, by decide +kernel⟩
theorem ok_pen {f : Addr} {fd : FuncData} (F : Fun K "_law_pen" "_law_pen" s__law_pen f fd) (m_list : mg "list" = none) : FnOk P w K mg base CX0 1 f fd ["script"] (spPen K) := by
  refine F.ok sc__law_pen (fun vs H Q E h => ?_) (fun cdv A outer s H vs Q E hr h => ?_)
  · obtain ⟨a, ns, rfl, _⟩ := h
    rfl
  · obtain ⟨a, ns, rfl, hS, hlen, q⟩ := h
    refine ⟨_, (pss_one (ps_ret (pe_disp (pps_cons pe_str (pe_callTy call_listL (by rfl) m_list (by decide +kernel) (pa_cons (pe_slice sl_list (pv 0) po_none (po_some pe_int)) pa_nil)) (pps_cons pe_str pe_int (pps_cons pe_str pe_int pps_nil))) rfl rfl (by simp) (by decide)))), ?_⟩
    show tRet _ _ [some (.ref a)] H
    walk_at "rd"
    intro p hp
    refine ⟨_, (same_new hp).seq hS, fun c hc => ⟨_, .inl (.inl upd_same), fun l hl => ⟨?_, penK l 0 0, rfl, (show 3 ≤ 15 by decide), ?_⟩⟩⟩
    · have h1 : p ≠ l := ne_of_none (show upd (upd H p (.dK [])) c _ p = some _ by rw [upd_ne (ne_of_none upd_same hc), upd_same]) hl
      rw [upd_ne h1, upd_ne (ne_of_none upd_same hc), upd_same]
    · refine q _ p l hp ?_ ⟨ns.take 63, 0, 0, upd_same, ?_, ?_, by decide, by decide⟩
      · exact Same.mut (Same.new (Same.new (same_new hp) hc) hl) hp
      · have h1 : p ≠ l := ne_of_none (show upd (upd H p (.dK [])) c _ p = some _ by rw [upd_ne (ne_of_none upd_same hc), upd_same]) hl
        rw [upd_ne h1.symm, upd_same, show (63 : Int) = ((63 : Nat) : Int) from rfl, cut_to, List.map_take]
      · rw [List.length_take]; omega
abbrev s__law_draw : Stmt := topS 15
theorem sc__law_draw : FnScope ["pen", "span", "digit", "turn", "cell", "mixed"] ["pen", "span"] (defScope s__law_draw) := ⟨rfl, rfl, rfl, by decide +kernel, rfl, by decide +kernel, by decide +kernel⟩
theorem ok_draw {f : Addr} {fd : FuncData} (F : Fun K "_law_draw" "_law_draw" s__law_draw f fd) (m_int : mg "int" = none) (m_len : mg "len" = none) (m_abs : mg "abs" = none) : FnOk P w K mg base CX0 1 f fd ["pen", "span"] spDraw := by
  refine F.ok sc__law_draw (fun vs H Q E h => ?_) (fun cdv A outer s H vs Q E hr h => ?_)
  · obtain ⟨p, c, span, t, rfl, _⟩ := h
    rfl
  · obtain ⟨p, c, span, t, rfl, hP, ht, hs0, hs1, q⟩ := h
    have hu := hu_of hr
    have hu64 := hr.units
    refine ⟨_, (pss_cons (ps_if (pt_cmpR op_gt (pe_dget hu (pv 0) pe_str (fun _ _ => rfl)) pe_int (nomark _))
      (pss_cons (ps_set (i := 2) sc__law_draw.nd rfl (.inl rfl) (pe_op op_mod (pe_callTy call_intI (by rfl) m_int (by decide +kernel) (pa_cons (pe_dget hu (pv 0) pe_str (fun _ _ => rfl)) pa_nil)) (pv 1)))
        (pss_cons (ps_dput hu (pv 0) pe_str (pe_op op_fdivW (pe_dget hu (pv 0) pe_str (fun _ _ => rfl)) (pv 1)) rfl)
        (pss_one (ps_ret (pv 2)))))
      pss_nil)
    (pss_cons (ps_set (i := 3) sc__law_draw.nd rfl (.inl rfl) (pe_dget hu (pv 0) pe_str (fun _ _ => rfl)))
    (pss_cons (ps_dput hu (pv 0) pe_str (pe_op op_add (pv 3) pe_int) rfl)
    (pss_cons (ps_set (i := 4) sc__law_draw.nd rfl (.inl rfl) (pe_op op_add (pe_op op_mul pe_int (pv 3)) pe_int))
    (Evl.pss_cut (ps_if (pt_cmpR (op_neD hu64) (pe_dget hu (pv 0) pe_str (fun _ _ => rfl)) (pe_lst pa_nil) (nomark _))
      (pss_one (ps_set (i := 4) sc__law_draw.nd rfl (.inl rfl) (pe_ix ix_list (pe_dget hu (pv 0) pe_str (fun _ _ => rfl)) (pe_op op_mod (pe_callTy call_intI (by rfl) m_int (by decide +kernel) (pa_cons (pv 3) pa_nil)) (pe_callB call_lenL (by rfl) m_len PySem.boot_len (pa_cons (pe_dget hu (pv 0) pe_str (fun _ _ => rfl)) pa_nil))) (fun _ _ => rfl))))
      pss_nil)
    (pss_cons (ps_if (PW.pt (pw_and (pt_cmpR op_lt (pv 3) (pe_callB call_lenL (by rfl) m_len PySem.boot_len (pa_cons (pe_dget hu (pv 0) pe_str (fun _ _ => rfl)) pa_nil)) (nomark _)) (pw_and1 (pt_cmpR op_ge (pe_callB call_absI (by rfl) m_abs (by decide +kernel) (pa_cons (pv 4) pa_nil)) (pe_op op_pow pe_int pe_int) (nomark _)))))
      (pss_cons (ps_dput hu (pv 0) pe_str (pe_op op_fdivW (pe_op op_sub (pe_callB call_absI (by rfl) m_abs (by decide +kernel) (pa_cons (pv 4) pa_nil)) (pe_op op_pow pe_int pe_int)) (pv 1)) rfl)
        (pss_one (ps_ret (pe_op op_mod (pe_callTy call_intI (by rfl) m_int (by decide +kernel) (pa_cons (pe_op op_sub (pe_callB call_absI (by rfl) m_abs (by decide +kernel) (pa_cons (pv 4) pa_nil)) (pe_op op_pow pe_int pe_int)) pa_nil)) (pv 1)))))
      pss_nil)
    (pss_cons (ps_set (i := 5) sc__law_draw.nd rfl (.inl rfl) (pe_op op_mul (pe_op op_mod (pe_callTy call_intI (by rfl) m_int (by decide +kernel) (pa_cons (pv 4) pa_nil)) pe_int) pe_int))
    (pss_cons (ps_set (i := 5) sc__law_draw.nd rfl (.inl rfl) (pe_op op_mod (pe_callTy call_intI (by rfl) m_int (by decide +kernel) (pa_cons (pe_op op_add (pe_op op_add (pv 5) (pe_op op_mul (pv 3) (pe_op op_add (pe_op op_mul (pv 3) pe_int) pe_int))) pe_int) pa_nil)) pe_int))
    (pss_cons (ps_set (i := 5) sc__law_draw.nd rfl (.inl rfl) (pe_op op_mod (pe_callTy call_intI (by rfl) m_int (by decide +kernel) (pa_cons (pe_op op_mul (pv 5) (pe_op op_add (pv 5) pe_int)) pa_nil)) pe_int))
    (pss_cons (ps_set (i := 5) sc__law_draw.nd rfl (.inl rfl) (pe_op op_mod (pe_callTy call_intI (by rfl) m_int (by decide +kernel) (pa_cons (pe_op op_add (pe_op op_add (pe_op op_mul (pv 5) (pv 5)) (pe_op op_mul pe_int (pv 5))) (pe_op op_mul pe_int (pv 3))) pa_nil)) pe_int))
    (pss_one (ps_ret (pe_op op_mod (pe_callTy call_intI (by rfl) m_int (by decide +kernel) (pa_cons (pe_op op_fdivW (pe_op op_mod (pe_callTy call_intI (by rfl) m_int (by decide +kernel) (pa_cons (pe_op op_mul (pv 5) (pe_op op_add (pv 5) pe_int)) pa_nil)) pe_int) pe_int) pa_nil)) (pv 1)))))))))))))), ?_⟩
    show tSeq _ _ _ [some (.ref p), some (.int span), none, none, none, none] H
    obtain ⟨cells, turn, left, h1, h2, h3, h4, h5⟩ := hP.ex
    have hmul : ∀ x : Int, 0 ≤ x → x < 4294967296 → ∀ y, CMul x y := fun x h0 h1 y => .inl ⟨by omega, by omega⟩
    refine seqi fun k hk => ?_
    walk_at "rd"
    refine dg_s h1 (pen_left _ _ _) ⟨_, rfl, ite2 (fun hl => ?_) (fun hl => ?_)⟩
    · refine seqi fun k hk => ?_
      walk_at "rd"
      refine dg_s h1 (pen_left _ _ _) ⟨_, rfl, hs0, ?_⟩
      subst hk
      refine seqi fun k hk => ?_
      walk_at "rd"
      refine dg_s h1 (pen_left _ _ _) ⟨_, rfl, ⟨hs0, hs1⟩, ?_⟩
      refine dp_s h1 (pen_len _ _ _) ?_
      rw [pen_putL]
      subst hk
      walk_at "rd"
      refine q _ _ (Int.emod_nonneg _ (by omega)) (Int.emod_lt_of_pos _ hs0) ⟨cells, turn, _, upd_same, ?_, h3, h4, by omega⟩ ⟨fun b o hb n => by rw [upd_ne n]; exact hb, fun _ => by rw [upd_same]; intro z; cases z⟩
      rw [upd_ne (ne_of h2 h1 (by intro z; cases z))]
      exact h2
    · subst hk
      refine seqi fun k hk => ?_
      walk_at "rd"
      refine dg_s h1 (pen_turn _ _ _) ?_
      subst hk
      refine seqi fun k hk => ?_
      walk_at "rd"
      refine dp_s h1 (pen_len _ _ _) ?_
      rw [pen_putT]
      have b1 : But p H (upd H p (.dK (penK c (turn + 1) left))) := ⟨fun b o hb n => by rw [upd_ne n]; exact hb, fun _ => by rw [upd_same]; intro z; cases z⟩
      have h1' : (upd H p (.dK (penK c (turn + 1) left))) p = some (.dK (penK c (turn + 1) left)) := upd_same
      have h2' : (upd H p (.dK (penK c (turn + 1) left))) c = some (.lst (cells.map V.int)) := by
        rw [upd_ne (ne_of h2 h1 (by intro z; cases z))]
        exact h2
      revert h1' h2' b1
      generalize (upd H p (.dK (penK c (turn + 1) left))) = H1
      intro b1 h1' h2'
      subst hk
      refine seqi fun k hk => ?_
      walk_at "rd"
      subst hk
      refine ⟨.inl ⟨by decide, by decide⟩, fun σ' H' => ∃ cell : Int, σ' = [some (.ref p), some (.int span), none, some (.int turn), some (.int cell), none] ∧ Same H1 H', ?_, ?_⟩
      · walk_at "rd"
        refine dg_s h1' (pen_cells _ _ _) ⟨Nat.zero_le _, fun d hd => ?_⟩
        have s2 : Same H1 (upd H1 d (.lst [])) := same_new hd
        have hc : SqL K (upd H1 d (.lst [])) c (cells.map V.int) := .inl (.inl (s2 _ _ h2'))
        refine ne_nil hc (dp_ints _ _ _) (shaped_ints _) upd_same ⟨_, rfl, ite2 (fun hn => ?_) (fun hn => ?_)⟩
        · have h0 : cells ≠ [] := fun z => by
            subst z
            exact absurd hn (by decide)
          obtain ⟨v, hv⟩ := ix_mod (ns := cells) (t := turn) h0
          have hl0 : (0 : Int) < ((cells.map V.int).length : Nat) := by
            rw [List.length_map]
            cases cells with
            | nil => exact absurd rfl h0
            | cons x r => show (0 : Int) < ((r.length + 1 : Nat) : Int); omega
          exact dg_s (s2 _ _ h1') (pen_cells _ _ _) (dg_s (s2 _ _ h1') (pen_cells _ _ _) ⟨_, rfl, _, hc, hl0, _, rfl, _, hc, _, hv, _, rfl, s2⟩)
        · exact s2
      · rintro σ' H2 ⟨cell, rfl, s2⟩
        have h1'' := s2 _ _ h1'
        have h2'' := s2 _ _ h2'
        have b2 : But p H H2 := b1.trans (But.of s2)
        refine seqi fun k hk => ?_
        have go : k [some (V.ref p), some (V.int span), none, some (V.int turn), some (V.int cell), none] H2 := by
          subst hk
          refine seqi fun k hk => ?_
          walk_at "rd"
          refine ⟨by decide, .inr ⟨by decide, by decide⟩, ?_⟩
          subst hk
          refine seqi fun k hk => ?_
          walk_at "rd"
          refine ⟨.inr ⟨by decide, by decide⟩, .inl ⟨by omega, by omega⟩, by decide, ?_⟩
          generalize hm : (_ : Int) % 4294967029 = m
          have m0 : 0 ≤ m := by rw [← hm]; exact Int.emod_nonneg _ (by decide)
          have m1 : m < 4294967296 := by have := Int.emod_lt_of_pos (cell % 4294967087 * 48611 + turn * (turn * 27919 + 10601) + 41) (show (0 : Int) < 4294967029 by decide); omega
          clear hm
          subst hk
          refine seqi fun k hk => ?_
          walk_at "rd"
          refine ⟨hmul _ m0 m1 _, by decide, ?_⟩
          obtain ⟨m2, hm2⟩ : ∃ m2, m * (m + 75013) % 4294966997 = m2 := ⟨_, rfl⟩
          have m3 : 0 ≤ m2 := by rw [← hm2]; exact Int.emod_nonneg _ (by decide)
          have m4 : m2 < 4294967296 := by have := Int.emod_lt_of_pos (m * (m + 75013)) (show (0 : Int) < 4294966997 by decide); omega
          rw [hm2]
          subst hk
          refine seqi fun k hk => ?_
          walk_at "rd"
          refine ⟨hmul _ m3 m4 _, .inl ⟨by decide, by decide⟩, .inl ⟨by decide, by decide⟩, by decide, ?_⟩
          obtain ⟨m5, hm5⟩ : ∃ m5, (m2 * m2 + 30427 * m2 + 19 * turn) % 4294966981 = m5 := ⟨_, rfl⟩
          have m6 : 0 ≤ m5 := by rw [← hm5]; exact Int.emod_nonneg _ (by decide)
          have m7 : m5 < 4294967296 := by have := Int.emod_lt_of_pos (m2 * m2 + 30427 * m2 + 19 * turn) (show (0 : Int) < 4294966981 by decide); omega
          rw [hm5]
          subst hk
          walk_at "rd"
          refine ⟨hmul _ m6 m7 _, by decide, ⟨by decide, by decide⟩, hs0, ?_⟩
          exact q _ _ (Int.emod_nonneg _ (by omega)) (Int.emod_lt_of_pos _ hs0) ⟨cells, turn + 1, left, h1'', h2'', h3, by omega, by omega⟩ b2
        walk_at "rd"
        refine dg_s h1'' (pen_cells _ _ _) ⟨_, rfl, _, .inl (.inl h2''), ite2 (fun ht => ?_) (fun ht => go)⟩
        refine ⟨⟨by decide, by decide, by decide⟩, ite2 (fun hge => ?_) (fun hge => go)⟩
        clear go
        refine seqi fun k2 hk2 => ?_
        walk_at "rd"
        refine ⟨⟨by decide, by decide, by decide⟩, ⟨hs0, hs1⟩, dp_s h1'' (pen_len _ _ _) ?_⟩
        rw [pen_putL]
        subst hk2
        walk_at "rd"
        refine ⟨⟨by decide, by decide, by decide⟩, hs0, ?_⟩
        refine q _ _ (Int.emod_nonneg _ (by omega)) (Int.emod_lt_of_pos _ hs0) ⟨cells, turn + 1, _, upd_same, ?_, h3, by omega, by omega⟩ (b2.trans ⟨fun b o hb n => by rw [upd_ne n]; exact hb, fun _ => by rw [upd_same]; intro z; cases z⟩)
        rw [upd_ne (ne_of h2'' h1'' (by intro z; cases z))]
        exact h2''
open ClX in
abbrev s_BadValue___init__ : Stmt := inClass (topS 4) 0
theorem sc_BadValue___init__ : FnScope ["self", "value"] ["self", "value"] (defScope s_BadValue___init__) := ⟨rfl, rfl, rfl, by decide +kernel, rfl, by decide +kernel, by decide +kernel⟩
open ClX in
theorem ok_BadValue {f : Addr} {fd : FuncData} (F : Fun K "__init__" "BadValue.__init__" s_BadValue___init__ f fd) (e : EC K FE C) (nf : PySem.W.findIn K (.ref C) "value" = some none) : FnOk P w K mg base CX0 1 f fd ["self", "value"] (spIN C "value") := by
  refine F.ok sc_BadValue___init__ (fun vs H Q E h => ?_) (fun cdv A outer s H vs Q E hr h => ?_)
  · obtain ⟨a, v, rfl, _⟩ := h
    rfl
  · obtain ⟨a, v, rfl, ha, q⟩ := h
    exact ⟨_, (pss_one (ps_ostK (K := K) (pv 0) (pv 1) rfl)), iniN e nf ha q⟩
open ClX in
abbrev s_BadSize___init__ : Stmt := inClass (topS 5) 0
theorem sc_BadSize___init__ : FnScope ["self", "size"] ["self", "size"] (defScope s_BadSize___init__) := ⟨rfl, rfl, rfl, by decide +kernel, rfl, by decide +kernel, by decide +kernel⟩
open ClX in
theorem ok_BadSize {f : Addr} {fd : FuncData} (F : Fun K "__init__" "BadSize.__init__" s_BadSize___init__ f fd) (e : EC K FE C) (nf : PySem.W.findIn K (.ref C) "size" = some none) : FnOk P w K mg base CX0 1 f fd ["self", "size"] (spIN C "size") := by
  refine F.ok sc_BadSize___init__ (fun vs H Q E h => ?_) (fun cdv A outer s H vs Q E hr h => ?_)
  · obtain ⟨a, v, rfl, _⟩ := h
    rfl
  · obtain ⟨a, v, rfl, ha, q⟩ := h
    exact ⟨_, (pss_one (ps_ostK (K := K) (pv 0) (pv 1) rfl)), iniN e nf ha q⟩
end
end Fp

namespace Fp
open PySem PySem.Spec PyProof.Rows L2 Fd ClX
local macro_rules | `(tactic| walk_at "rd") => `(tactic| simp only [cxK, cxKn, tRet, tRetN, rIntI, rIntB, rLenL, rListL, rListT, rAbs, tDisp, tPairs, tC, tCB, tCons, tNil, tSl, tVar, tNoPart, tPart, rSlL, tOp, tAsg, gName, tIfS, tDrop, tTest, tAnd, tOr, Evl.tCut, tNot, tB, rI0, rI, rIxL, rIxT, rIxD, tDGet, sDPut, tLst, tTup, tBM, tBM0, tPar, rAppend, rPopAt, rPop, rExtend, rTupL, tCall, tNext, rAll, rOwnIn, rOwn2, rCat, lc_iL, lc_iT, lc_iK, lc_iR, lc_iE, fr_iL, fr_iT, fr_iR, tYes, rIn, rEq, rNe, gTup, gCons, gNil, wipe, tMeth, tFld, sFld, tMake, tProp, tIf, tAndV, tOrV, tNotV, tTru, rIsi, rSum, tRevL, rU, tUn, rIxS, iEnum, if_true, if_false, Bool.false_eq_true, List.map_cons, List.map_nil, List.nil_append, List.append_nil, List.cons_append, List.getElem?_cons_zero, List.getElem?_cons_succ, Option.some.injEq, exists_and_left, exists_eq_left', exists_eq_left, List.cons.injEq, and_true, true_and, V.ref.injEq, V.int.injEq, V.str.injEq, V.bl.injEq, List.set_cons_zero, List.set_cons_succ])
local macro_rules | `(tactic| walk_at "ev") => `(tactic| (repeat' (first | (with_reducible first | exact ev_int | exact ev_str | exact ev_bl | exact ev_non | exact eva_nil | apply eva_cons | exact r2_add | exact r2_sub | exact r2_lt | exact r2_le | exact r2_gt | exact r2_ge | exact r2_eqI | exact r2_neI | exact r2_eqS | exact r2_neS | exact ra_len | exact ra_intI | exact ra_list | apply ev_op | apply ev_cb | apply evb_T (lv := true) | apply evb_B (lv := true) | apply evb_not) | ((with_reducible apply ev_var); exact rfl))))
theorem all_mk {l : PySem.W.OpenLaw} {w : World} {K : PySem.W.Frag} {h : Heap} {mg : Str → Option Value} {fa : Addr} (X : K.In h) (G : h.Ns mainGlobals mg) (hfa : mg "law" = some (.ref fa))
    {C f_pe f_dr f_pi f_ro f_rt f_td f_or cc_or PP_or f_ck f_la cc_la PP_la f_in f_se f_ge f_st p_of f_of z0 FE CV gV CS gS : Addr} {od_pe an_pe od_dr an_dr od_pi an_pi od_ro an_ro od_rt an_rt od_td an_td od_or an_or od_ck an_ck od_la an_la od_in an_in od_se an_se od_ge an_ge od_st an_st od_of an_of : Option Addr} {sl_pe sl_dr sl_pi sl_ro sl_rt sl_td sl_or sl_ck sl_la sl_in sl_se sl_ge sl_st sl_of : Array (Option Value)}
    {oc_pe kV_pe dc_pe pm_pe cd_pe ct_pe oc_dr kV_dr dc_dr pm_dr cd_dr ct_dr oc_pi kV_pi dc_pi pm_pi cd_pi ct_pi oc_ro kV_ro dc_ro pm_ro cd_ro ct_ro oc_rt kV_rt dc_rt pm_rt cd_rt ct_rt oc_td kV_td dc_td pm_td cd_td ct_td oc_or kV_or dc_or pm_or ct_or oc_ck kV_ck dc_ck pm_ck cd_ck ct_ck oc_la kV_la dc_la pm_la ct_la oc_in kV_in dc_in pm_in cd_in ct_in oc_se kV_se dc_se pm_se cd_se ct_se oc_ge kV_ge dc_ge pm_ge cd_ge ct_ge oc_st kV_st dc_st pm_st cd_st ct_st oc_of kV_of dc_of pm_of cd_of ct_of : Value} {tG : Tok} {rest_of : List Value}
    (aC : PySem.W.nsIn K mainGlobals "Table" = some (some (.ref C)))
    (mk : PySem.W.makesIn K C = true)
    (kC : PySem.W.keepIn K (.ref C) = true)
    (pg : PySem.W.plainGet K C Str.empty = true)
    (hd : PySem.W.hasDictIn K C = true)
    (po : PySem.W.plainOver K C = true)
    (sa : PySem.W.findIn K (.ref C) "__setattr__" = some (some (.builtin "object.__setattr__")))
    (nS : PySem.W.findIn K (.ref C) "size" = some none)
    (nR : PySem.W.findIn K (.ref C) "_rows" = some none)
    (aG : PySem.W.nsIn K mainGlobals "_GREATEST_SIZE" = some (some (.int 60 tG)))
    (nq : PySem.W.noSeq K C = true)
    (iN : PySem.W.specialIn K (.builtin "object.__class__") "__get__" = some (some (.builtin "getset_descriptor.__get__")))
    (iT : PySem.W.takesIn K (.builtin "object.__class__") = some true)
    (a_pe : PySem.W.nsIn K mainGlobals "_law_pen" = some (some (.ref f_pe)))
    (l_pe : K.lookup f_pe = some ⟨oc_pe, od_pe, .func (PySem.W.fnOf "_law_pen" "_law_pen" (defArgs s__law_pen) (defBody s__law_pen) (defScope s__law_pen) .none kV_pe dc_pe pm_pe an_pe cd_pe ct_pe), sl_pe⟩)
    (c_pe : PySem.W.codeIn K cd_pe "_law_pen" = true)
    (k_pe : PySem.W.keepIn K (.ref f_pe) = true)
    (a_dr : PySem.W.nsIn K mainGlobals "_law_draw" = some (some (.ref f_dr)))
    (l_dr : K.lookup f_dr = some ⟨oc_dr, od_dr, .func (PySem.W.fnOf "_law_draw" "_law_draw" (defArgs s__law_draw) (defBody s__law_draw) (defScope s__law_draw) .none kV_dr dc_dr pm_dr an_dr cd_dr ct_dr), sl_dr⟩)
    (c_dr : PySem.W.codeIn K cd_dr "_law_draw" = true)
    (k_dr : PySem.W.keepIn K (.ref f_dr) = true)
    (a_pi : PySem.W.nsIn K mainGlobals "_law_pick" = some (some (.ref f_pi)))
    (l_pi : K.lookup f_pi = some ⟨oc_pi, od_pi, .func (PySem.W.fnOf "_law_pick" "_law_pick" (defArgs s__law_pick) (defBody s__law_pick) (defScope s__law_pick) .none kV_pi dc_pi pm_pi an_pi cd_pi ct_pi), sl_pi⟩)
    (c_pi : PySem.W.codeIn K cd_pi "_law_pick" = true)
    (k_pi : PySem.W.keepIn K (.ref f_pi) = true)
    (a_ro : PySem.W.nsIn K mainGlobals "_law_rows_of_table" = some (some (.ref f_ro)))
    (l_ro : K.lookup f_ro = some ⟨oc_ro, od_ro, .func (PySem.W.fnOf "_law_rows_of_table" "_law_rows_of_table" (defArgs s__law_rows_of_table) (defBody s__law_rows_of_table) (defScope s__law_rows_of_table) .none kV_ro dc_ro pm_ro an_ro cd_ro ct_ro), sl_ro⟩)
    (c_ro : PySem.W.codeIn K cd_ro "_law_rows_of_table" = true)
    (k_ro : PySem.W.keepIn K (.ref f_ro) = true)
    (a_rt : PySem.W.nsIn K mainGlobals "_law_rows_text" = some (some (.ref f_rt)))
    (l_rt : K.lookup f_rt = some ⟨oc_rt, od_rt, .func (PySem.W.fnOf "_law_rows_text" "_law_rows_text" (defArgs s__law_rows_text) (defBody s__law_rows_text) (defScope s__law_rows_text) .none kV_rt dc_rt pm_rt an_rt cd_rt ct_rt), sl_rt⟩)
    (c_rt : PySem.W.codeIn K cd_rt "_law_rows_text" = true)
    (k_rt : PySem.W.keepIn K (.ref f_rt) = true)
    (a_td : PySem.W.nsIn K mainGlobals "_law_tried" = some (some (.ref f_td)))
    (l_td : K.lookup f_td = some ⟨oc_td, od_td, .func (PySem.W.fnOf "_law_tried" "_law_tried" (defArgs s__law_tried) (defBody s__law_tried) (defScope s__law_tried) .none kV_td dc_td pm_td an_td cd_td ct_td), sl_td⟩)
    (c_td : PySem.W.codeIn K cd_td "_law_tried" = true)
    (k_td : PySem.W.keepIn K (.ref f_td) = true)
    (a_or : PySem.W.nsIn K mainGlobals "_law_of_right" = some (some (.ref f_or)))
    (l_or : K.lookup f_or = some ⟨oc_or, od_or, .func (PySem.W.fnOf "_law_of_right" "_law_of_right" (defArgs s__law_of_right) (defBody s__law_of_right) (defScope s__law_of_right) .none kV_or dc_or pm_or an_or (.ref cc_or) ct_or), sl_or⟩)
    (c_or : PySem.W.codeIn K (.ref cc_or) "_law_of_right" = true)
    (k_or : PySem.W.keepIn K (.ref f_or) = true)
    (a_ck : PySem.W.nsIn K mainGlobals "_check_values" = some (some (.ref f_ck)))
    (l_ck : K.lookup f_ck = some ⟨oc_ck, od_ck, .func (PySem.W.fnOf "_check_values" "_check_values" (defArgs s__check_values) (defBody s__check_values) (defScope s__check_values) .none kV_ck dc_ck pm_ck an_ck cd_ck ct_ck), sl_ck⟩)
    (c_ck : PySem.W.codeIn K cd_ck "_check_values" = true)
    (k_ck : PySem.W.keepIn K (.ref f_ck) = true)
    (a_la : PySem.W.nsIn K mainGlobals "law" = some (some (.ref f_la)))
    (l_la : K.lookup f_la = some ⟨oc_la, od_la, .func (PySem.W.fnOf "law" "law" (defArgs s_law) (defBody s_law) (defScope s_law) .none kV_la dc_la pm_la an_la (.ref cc_la) ct_la), sl_la⟩)
    (c_la : PySem.W.codeIn K (.ref cc_la) "law" = true)
    (k_la : PySem.W.keepIn K (.ref f_la) = true)
    (a_in : PySem.W.findIn K (.ref C) "__init__" = some (some (.ref f_in)))
    (i_in : PySem.W.isFn K (.ref f_in) = true)
    (l_in : K.lookup f_in = some ⟨oc_in, od_in, .func (PySem.W.fnOf "__init__" "Table.__init__" (defArgs s_Table___init__) (defBody s_Table___init__) (defScope s_Table___init__) .none kV_in dc_in pm_in an_in cd_in ct_in), sl_in⟩)
    (c_in : PySem.W.codeIn K cd_in "Table.__init__" = true)
    (k_in : PySem.W.keepIn K (.ref f_in) = true)
    (a_se : PySem.W.findIn K (.ref C) "__setitem__" = some (some (.ref f_se)))
    (i_se : PySem.W.isFn K (.ref f_se) = true)
    (l_se : K.lookup f_se = some ⟨oc_se, od_se, .func (PySem.W.fnOf "__setitem__" "Table.__setitem__" (defArgs s_Table___setitem__) (defBody s_Table___setitem__) (defScope s_Table___setitem__) .none kV_se dc_se pm_se an_se cd_se ct_se), sl_se⟩)
    (c_se : PySem.W.codeIn K cd_se "Table.__setitem__" = true)
    (k_se : PySem.W.keepIn K (.ref f_se) = true)
    (a_ge : PySem.W.findIn K (.ref C) "__getitem__" = some (some (.ref f_ge)))
    (i_ge : PySem.W.isFn K (.ref f_ge) = true)
    (l_ge : K.lookup f_ge = some ⟨oc_ge, od_ge, .func (PySem.W.fnOf "__getitem__" "Table.__getitem__" (defArgs s_Table___getitem__) (defBody s_Table___getitem__) (defScope s_Table___getitem__) .none kV_ge dc_ge pm_ge an_ge cd_ge ct_ge), sl_ge⟩)
    (c_ge : PySem.W.codeIn K cd_ge "Table.__getitem__" = true)
    (k_ge : PySem.W.keepIn K (.ref f_ge) = true)
    (a_st : PySem.W.findIn K (.ref C) "__str__" = some (some (.ref f_st)))
    (i_st : PySem.W.isFn K (.ref f_st) = true)
    (l_st : K.lookup f_st = some ⟨oc_st, od_st, .func (PySem.W.fnOf "__str__" "Table.__str__" (defArgs s_Table___str__) (defBody s_Table___str__) (defScope s_Table___str__) .none kV_st dc_st pm_st an_st cd_st ct_st), sl_st⟩)
    (c_st : PySem.W.codeIn K cd_st "Table.__str__" = true)
    (k_st : PySem.W.keepIn K (.ref f_st) = true)
    (j_ge : PySem.W.fnIn K f_ge = true)
    (a_of : PySem.W.findCls K (.ref C) (.type "type") "of" = some (.get (.builtin "classmethod.__get__") (.ref p_of) .none (.ref C)))
    (r_of : PySem.W.recIn K p_of "classmethod" = some (.ref f_of :: rest_of))
    (i_of : PySem.W.fnIn K f_of = true)
    (l_of : K.lookup f_of = some ⟨oc_of, od_of, .func (PySem.W.fnOf "of" "Table.of" (defArgs s_Table_of) (defBody s_Table_of) (defScope s_Table_of) .none kV_of dc_of pm_of an_of cd_of ct_of), sl_of⟩)
    (c_of : PySem.W.codeIn K cd_of "Table.of" = true)
    (k_of : PySem.W.keepIn K (.ref f_of) = true)
    (rd : PySem.W.readsIn K C (.type "type") = true)
    (gaC : PySem.W.specialIn K (.ref C) "__getattribute__" = some (some (.builtin "type.__getattribute__")))
    (a_lz : PySem.W.nsIn K mainGlobals "_law_zero" = some (some (.ref z0)))
    (z_list : PySem.W.nsIn K mainGlobals "list" = some none)
    (z_len : PySem.W.nsIn K mainGlobals "len" = some none)
    (z_range : PySem.W.nsIn K mainGlobals "range" = some none)
    (z_int : PySem.W.nsIn K mainGlobals "int" = some none)
    (z_isinstance : PySem.W.nsIn K mainGlobals "isinstance" = some none)
    (z_bool : PySem.W.nsIn K mainGlobals "bool" = some none)
    (z_abs : PySem.W.nsIn K mainGlobals "abs" = some none)
    (z_str : PySem.W.nsIn K mainGlobals "str" = some none)
    (aF : PySem.W.nsIn K mainGlobals "FoldError" = some (some (.ref FE)))
    (lF : ∃ nm q N bs sn sub ab col dd k0 k1 k2 k3 k5, K.lookup FE = some (excClassObj nm q FE N bs PySem.HandSPX.veTail true sn sub ab col dd k0 k1 k2 k3 k5 "ValueError.__new__"))
    (tF : PySem.W.typeIn K (.ref FE) = some (.type "type"))
    (aXV : PySem.W.nsIn K mainGlobals "BadValue" = some (some (.ref CV)))
    (ecV : EC K FE CV)
    (inV : PySem.W.findIn K (.ref CV) "__init__" = some (some (.ref gV)))
    (tyV : PySem.W.typeIn K (.ref gV) = some (.type "function"))
    (fnV : ∃ (oc : Value) (od : Option Addr) (kV doc pm : Value) (an : Option Addr) (cdv ct : Value) (osl : Array (Option Value)), K.lookup gV = some ⟨oc, od, .func (PySem.W.fnOf "__init__" "BadValue.__init__" (defArgs s_BadValue___init__) (defBody s_BadValue___init__) (defScope s_BadValue___init__) .none kV doc pm an cdv ct), osl⟩ ∧ PySem.W.codeIn K cdv "BadValue.__init__" = true ∧ PySem.W.keepIn K (.ref gV) = true)
    (nxV : PySem.W.findIn K (.ref CV) "value" = some none)
    (aXS : PySem.W.nsIn K mainGlobals "BadSize" = some (some (.ref CS)))
    (ecS : EC K FE CS)
    (inS : PySem.W.findIn K (.ref CS) "__init__" = some (some (.ref gS)))
    (tyS : PySem.W.typeIn K (.ref gS) = some (.type "function"))
    (fnS : ∃ (oc : Value) (od : Option Addr) (kV doc pm : Value) (an : Option Addr) (cdv ct : Value) (osl : Array (Option Value)), K.lookup gS = some ⟨oc, od, .func (PySem.W.fnOf "__init__" "BadSize.__init__" (defArgs s_BadSize___init__) (defBody s_BadSize___init__) (defScope s_BadSize___init__) .none kV doc pm an cdv ct), osl⟩ ∧ PySem.W.codeIn K cdv "BadSize.__init__" = true ∧ PySem.W.keepIn K (.ref gS) = true)
    (nxS : PySem.W.findIn K (.ref CS) "size" = some none)
    (eVV : PySem.W.exmOne K (.ref CV) (.ref CV) = some true)
    (eVS : PySem.W.exmOne K (.ref CV) (.ref CS) = some false)
    (eSS : PySem.W.exmOne K (.ref CS) (.ref CS) = some true)
    (hVS : CV ≠ CS)
    (hFE : FE ∉ [CV, CS])
    (hT_la : h.get? PP_la = some { cls := .none, data := .fields #[] })
    (hN_la : K.lookup PP_la = none)
    (hH_la : PySem.W.CodeHd h cc_la PP_la)
    (hT_or : h.get? PP_or = some { cls := .none, data := .fields #[] })
    (hN_or : K.lookup PP_or = none)
    (hH_or : PySem.W.CodeHd h cc_or PP_or)
    (hP_la_or : PP_la ≠ PP_or)
    : LawG l w K 10 63 "script" mg fa h := by
  have e := hfa.symm.trans (PySem.W.mg_of X G a_la)
  cases e
  have TX : TxT K mg C := ⟨PySem.W.mg_of X G aC, ⟨pg, hd, po, sa⟩, nS, nR⟩
  have F_pe := fun_mk (st := s__law_pen) l_pe c_pe k_pe
  have b_pe := F_pe.binds (ps := ["script"]) fun _ _ _ _ _ _ us hl => match us, hl with | [_], _ => rfl
  have F_dr := fun_mk (st := s__law_draw) l_dr c_dr k_dr
  have b_dr := F_dr.binds (ps := ["pen", "span"]) fun _ _ _ _ _ _ us hl => match us, hl with | [_, _], _ => rfl
  have F_pi := fun_mk (st := s__law_pick) l_pi c_pi k_pi
  have b_pi := F_pi.binds (ps := ["pen", "options"]) fun _ _ _ _ _ _ us hl => match us, hl with | [_, _], _ => rfl
  have F_ro := fun_mk (st := s__law_rows_of_table) l_ro c_ro k_ro
  have b_ro := F_ro.binds (ps := ["made"]) fun _ _ _ _ _ _ us hl => match us, hl with | [_], _ => rfl
  have F_rt := fun_mk (st := s__law_rows_text) l_rt c_rt k_rt
  have b_rt := F_rt.binds (ps := ["rows"]) fun _ _ _ _ _ _ us hl => match us, hl with | [_], _ => rfl
  have F_td := fun_mk (st := s__law_tried) l_td c_td k_td
  have b_td := F_td.binds (ps := ["call"]) fun _ _ _ _ _ _ us hl => match us, hl with | [_], _ => rfl
  have F_or := fun_mk (st := s__law_of_right) l_or c_or k_or
  have b_or := F_or.binds (ps := ["pen", "size"]) fun _ _ _ _ _ _ us hl => match us, hl with | [_, _], _ => rfl
  have F_ck := fun_mk (st := s__check_values) l_ck c_ck k_ck
  have b_ck := F_ck.binds (ps := ["values", "size"]) fun _ _ _ _ _ _ us hl => match us, hl with | [_, _], _ => rfl
  have F_la := fun_mk (st := s_law) l_la c_la k_la
  have F_in := fun_mk (st := s_Table___init__) l_in c_in k_in
  have b_in := F_in.binds (ps := ["self", "size"]) fun _ _ _ _ _ _ us hl => match us, hl with | [_, _], _ => rfl
  have F_se := fun_mk (st := s_Table___setitem__) l_se c_se k_se
  have b_se := F_se.binds (ps := ["self", "at", "worth"]) fun _ _ _ _ _ _ us hl => match us, hl with | [_, _, _], _ => rfl
  have F_ge := fun_mk (st := s_Table___getitem__) l_ge c_ge k_ge
  have b_ge := F_ge.binds (ps := ["self", "at"]) fun _ _ _ _ _ _ us hl => match us, hl with | [_, _], _ => rfl
  have F_st := fun_mk (st := s_Table___str__) l_st c_st k_st
  have b_st := F_st.binds (ps := ["self"]) fun _ _ _ _ _ _ us hl => match us, hl with | [_], _ => rfl
  have F_of := fun_mk (st := s_Table_of) l_of c_of k_of
  have b_of := F_of.binds (ps := ["cls", "size", "operation"]) fun _ _ _ _ _ _ us hl => match us, hl with | [_, _, _], _ => rfl
  have fam : EFam K FE [CV, CS] := ⟨by simp [hVS], hFE, by obtain ⟨nm, q, N, bs, sn, sub, ab, col, dd, k0, k1, k2, k3, k5, hF⟩ := lF; unfold PySem.W.clsIn; rw [hF] <;> rfl, tF, iN, iT, fun C hC => by
    simp only [List.mem_cons, List.not_mem_nil, or_false] at hC
    rcases hC with rfl | rfl
    · exact ecV
    · exact ecS⟩
  refine ⟨PySem.W.fnOf "law" "law" (defArgs s_law) (defBody s_law) (defScope s_law) .none kV_la dc_la pm_la an_la (.ref cc_la) ct_la, [(cc_la, PP_la), (cc_or, PP_or)], spLawT K [(PP_la, (fun _ _ => "law" ++ ".<locals>." ++ "<lambda>")), (PP_or, nmR)], fun p hp => by simp only [List.mem_cons, List.not_mem_nil, or_false] at hp; rcases hp with rfl | rfl <;> first | exact hT_la | exact hT_or, fun p hp => by simp only [List.mem_cons, List.not_mem_nil, or_false] at hp; rcases hp with rfl | rfl <;> first | exact hN_la | exact hN_or, fun p hp => by simp only [List.mem_cons, List.not_mem_nil, or_false] at hp; rcases hp with rfl | rfl <;> first | exact hH_la | exact hH_or, fun s v => .of_eq rfl, fun H a ns hn _ hH hS => ⟨a, ns, rfl, hS, hn, fun p hp => by simp only [List.mem_cons, List.not_mem_nil, or_false] at hp; rcases hp with rfl | rfl <;> first | exact NdefX.TabN.nil (hH (cc_la, PP_la) (by simp)) | exact NdefX.TabN.nil (hH (cc_or, PP_or) (by simp)), fun _ => rfl⟩, fun base _ _ hB => ?_⟩
  have MK_la : MakN base mg [(PP_la, (fun _ _ => "law" ++ ".<locals>." ++ "<lambda>")), (PP_or, nmR)] (.ref cc_la) (fun _ _ => "law" ++ ".<locals>." ++ "<lambda>") := ⟨cc_la, PP_la, rfl, hB (cc_la, PP_la) (by simp), List.mem_cons_self, fun p hp e => by simp only [List.mem_cons, List.not_mem_nil, or_false] at hp; rcases hp with rfl | rfl <;> first | exact absurd e hP_la_or | exact absurd e.symm hP_la_or | rfl⟩
  have MK_or : MakN base mg [(PP_la, (fun _ _ => "law" ++ ".<locals>." ++ "<lambda>")), (PP_or, nmR)] (.ref cc_or) nmR := ⟨cc_or, PP_or, rfl, hB (cc_or, PP_or) (by simp), (List.mem_cons_of_mem _ List.mem_cons_self), fun p hp e => by simp only [List.mem_cons, List.not_mem_nil, or_false] at hp; rcases hp with rfl | rfl <;> first | exact absurd e hP_la_or | exact absurd e.symm hP_la_or | rfl⟩
  have XV : Xe l.prog w K mg base CV "value" := by
    obtain ⟨oc, od, kV, doc, pm, an, cdv, ct, osl, h1, h2, h3⟩ := fnV
    have F := fun_mk (st := s_BadValue___init__) h1 h2 h3
    exact ⟨gV, _, ecV.oex, inV, tyV, F.binds (ps := ["self", "value"]) fun _ _ _ _ _ _ us hl => match us, hl with | [_, _], _ => rfl, ok_BadValue F ecV nxV⟩
  have XS : Xe l.prog w K mg base CS "size" := by
    obtain ⟨oc, od, kV, doc, pm, an, cdv, ct, osl, h1, h2, h3⟩ := fnS
    have F := fun_mk (st := s_BadSize___init__) h1 h2 h3
    exact ⟨gS, _, ecS.oex, inS, tyS, F.binds (ps := ["self", "size"]) fun _ _ _ _ _ _ us hl => match us, hl with | [_, _], _ => rfl, ok_BadSize F ecS nxS⟩
  have D_pe : Dn l.prog w K mg base 1 "_law_pen" ["script"] (spPen K) := ⟨f_pe, _, PySem.W.mg_of X G a_pe, k_pe, b_pe, ok_pen F_pe (PySem.W.mg_none_of X G z_list)⟩
  have D_dr : Dn l.prog w K mg base 1 "_law_draw" ["pen", "span"] spDraw := ⟨f_dr, _, PySem.W.mg_of X G a_dr, k_dr, b_dr, ok_draw F_dr (PySem.W.mg_none_of X G z_int) (PySem.W.mg_none_of X G z_len) (PySem.W.mg_none_of X G z_abs)⟩
  have D_pi : Dn l.prog w K mg base 2 "_law_pick" ["pen", "options"] (spW K pPiP pPiR) := ⟨f_pi, _, PySem.W.mg_of X G a_pi, k_pi, b_pi, ok_pickW F_pi (PySem.W.mg_none_of X G z_len) D_dr⟩
  have D_rt : Dn l.prog w K mg base 1 "_law_rows_text" ["rows"] (spV K pRT) := ⟨f_rt, _, PySem.W.mg_of X G a_rt, k_rt, b_rt, ok_rowstext F_rt (PySem.W.mg_none_of X G z_str)⟩
  have D_ck : De l.prog w K mg base 3 "_check_values" ["values", "size"] (spVR K pCkA pCkF (pCkG CV)) := ⟨f_ck, _, PySem.W.mg_of X G a_ck, k_ck, b_ck, ok_checkR F_ck (PySem.W.mg_none_of X G z_isinstance) (PySem.W.mg_none_of X G z_int) (PySem.W.mg_none_of X G z_bool) (PySem.W.mg_of X G aXV) XV⟩
  have D_ckn : Dn l.prog w K mg base 1 "_check_values" ["values", "size"] (spV K pCk) := ⟨f_ck, _, PySem.W.mg_of X G a_ck, k_ck, b_ck, ok_check F_ck (PySem.W.mg_none_of X G z_isinstance) (PySem.W.mg_none_of X G z_int) (PySem.W.mg_none_of X G z_bool)⟩
  have NR : Ke l.prog w K mg base 3 C ["self", "size"] [] (spTNR C CS) := ⟨f_in, _, [], ⟨mk, a_in, i_in, kC⟩, b_in, b_in, .nil, FnOk.or (L2.FnOk.mono (Fp.FnOk.cx (ok_tinit F_in TX tG (PySem.W.mg_of X G aG) (PySem.W.mg_none_of X G z_range))) (by decide)) (ok_tinitBad F_in tG (PySem.W.mg_of X G aG) (PySem.W.mg_none_of X G z_range) (PySem.W.mg_of X G aXS) XS TX)⟩
  have M_sx : Se l.prog w K mg base 4 C ["self", "at", "worth"] (spTSX K C CV) := ⟨f_se, _, ⟨a_se, i_se, k_se⟩, nq, b_se, ok_tset F_se TX D_ck⟩
  have M_ge : Ge l.prog w K mg base 2 C ["self", "at"] (spVX K (pGI C) gNo) := ⟨f_ge, _, ⟨a_ge, i_ge, k_ge⟩, j_ge, b_ge, ok_tget F_ge TX D_ckn⟩
  have M_st : Mn l.prog w K mg base 1 C "__str__" ["self"] (spV K (pTS C)) := ⟨f_st, _, ⟨a_st, i_st, k_st⟩, b_st, ok_tstr F_st TX (PySem.W.mg_none_of X G z_str)⟩
  have D_ro : Dn l.prog w K mg base 4 "_law_rows_of_table" ["made"] (spV K (pROT C)) := ⟨f_ro, _, PySem.W.mg_of X G a_ro, k_ro, b_ro, ok_rowsof F_ro TX (PySem.W.mg_none_of X G z_range) M_ge⟩
  have CE_of : Ce l.prog w K mg base 5 C "of" (spOfBad C CS) := ⟨.type "type", p_of, f_of, ⟨rd, gaC⟩, ⟨a_of, ⟨_, r_of⟩, i_of⟩, FnR.imp ((ok_ofBad F_of (PySem.W.mg_none_of X G z_range) NR M_sx).raw b_of .nil) (fun vs H Q E h => by rw [List.append_nil]; exact h)⟩
  have M_ofc : ∃ mc q g, ClX.CRead K C mc ∧ ClX.CMet K C mc "of" q g ∧ ∀ cl ws, FnRC l.prog w K mg base (L2.CX l.prog w) 5 g cl frOp ws (spOf C CV cl ws) := ⟨.type "type", p_of, f_of, ⟨rd, gaC⟩, ⟨a_of, ⟨_, r_of⟩, i_of⟩, fun cl ws => ok_of F_of b_of (PySem.W.mg_none_of X G z_range) (PySem.W.mg_none_of X G z_int) TX NR M_sx⟩
  have L_td : LcOk l.prog w K mg base "_law_tried" (TTd (TL26 CV CS)) := ok_tried F_td fam (PySem.W.mg_of X G a_td) k_td b_td eVV eVS eSS nxV nxS hVS (PySem.W.mg_of X G aXV) (PySem.W.mg_of X G aXS) (PySem.W.mg_of X G aF) (PySem.W.mg_none_of X G z_isinstance)
  have D_or : Dn l.prog w K mg base 8 "_law_of_right" ["pen", "size"] (spWT K [(PP_la, (fun _ _ => "law" ++ ".<locals>." ++ "<lambda>")), (PP_or, nmR)] pOrP pOrR) := ⟨f_or, _, PySem.W.mg_of X G a_or, k_or, b_or, ok_ofright l_or c_or MK_or TX (PySem.W.mg_none_of X G z_range) (PySem.W.mg_none_of X G z_int) (PySem.W.mg_none_of X G z_str) (PySem.W.mg_of X G aC) L_td D_dr D_pi D_ro D_rt M_st M_ofc⟩
  exact ok_law l_la c_la MK_la TX (PySem.W.mg_none_of X G z_range) (PySem.W.mg_none_of X G z_int) (PySem.W.mg_none_of X G z_abs) (PySem.W.mg_of X G aC) (PySem.W.mg_of X G a_lz) L_td D_pe D_dr D_pi D_ro D_or NR CE_of
end Fp

namespace Fp
open PySem PySem.Spec PyProof.Rows L2 Fd
local macro_rules | `(tactic| walk_at "rd") => `(tactic| simp only [cxK, cxKn, tRet, tRetN, rIntI, rIntB, rLenL, rListL, rListT, rAbs, tDisp, tPairs, tC, tCB, tCons, tNil, tSl, tVar, tNoPart, tPart, rSlL, tOp, tAsg, gName, tIfS, tDrop, tTest, tAnd, tOr, Evl.tCut, tNot, tB, rI0, rI, rIxL, rIxT, rIxD, tDGet, sDPut, tLst, tTup, tBM, tBM0, tPar, rAppend, rPopAt, rPop, rExtend, rTupL, tCall, tNext, rAll, rOwnIn, rOwn2, rCat, lc_iL, lc_iT, lc_iK, lc_iR, lc_iE, fr_iL, fr_iT, fr_iR, tYes, rIn, rEq, rNe, gTup, gCons, gNil, wipe, tMeth, tFld, sFld, tMake, tProp, tIf, tAndV, tOrV, tNotV, tTru, rIsi, rSum, tRevL, rU, tUn, rIxS, iEnum, if_true, if_false, Bool.false_eq_true, List.map_cons, List.map_nil, List.nil_append, List.append_nil, List.cons_append, List.getElem?_cons_zero, List.getElem?_cons_succ, Option.some.injEq, exists_and_left, exists_eq_left', exists_eq_left, List.cons.injEq, and_true, true_and, V.ref.injEq, V.int.injEq, V.str.injEq, V.bl.injEq, List.set_cons_zero, List.set_cons_succ])
local macro_rules | `(tactic| walk_at "ev") => `(tactic| (repeat' (first | (with_reducible first | exact ev_int | exact ev_str | exact ev_bl | exact ev_non | exact eva_nil | apply eva_cons | exact r2_add | exact r2_sub | exact r2_lt | exact r2_le | exact r2_gt | exact r2_ge | exact r2_eqI | exact r2_neI | exact r2_eqS | exact r2_neS | exact ra_len | exact ra_intI | exact ra_list | apply ev_op | apply ev_cb | apply evb_T (lv := true) | apply evb_B (lv := true) | apply evb_not) | ((with_reducible apply ev_var); exact rfl))))
end Fp
open PySem PySem.W PyProof.Rows
set_option maxHeartbeats 0 in
theorem PySem.Challenge.cw_foldplans_k26_tables_refused_holds : PySem.Challenge.rw_foldplans_k26_tables_refused.Holds := by
  w_on; o_law; k_head; (case hw => w_witness2)
  k_fill
  refine Fp.walk_ofG (l := PySem.Challenge.rw_foldplans_k26_tables_refused) (n := 63) (k := 10) (x := "script") rfl (by decide) rfl ⟨⟨rfl, by decide, by decide⟩, rfl⟩ (fun w h Y => PySem.W.km_in_of Y) ?F
  case F =>
    intro w mg fa h Y KX G hmg
    have hT8 := PySem.W.km_tabs_of Y
    refine' Fp.all_mk KX G hmg ?aC ?mk ?kC ?pg ?hd ?po ?sa ?nS ?nR ?aG ?nq ?iN ?iT ?a_pe ?l_pe ?c_pe ?k_pe ?a_dr ?l_dr ?c_dr ?k_dr ?a_pi ?l_pi ?c_pi ?k_pi ?a_ro ?l_ro ?c_ro ?k_ro ?a_rt ?l_rt ?c_rt ?k_rt ?a_td ?l_td ?c_td ?k_td ?a_or ?l_or ?c_or ?k_or ?a_ck ?l_ck ?c_ck ?k_ck ?a_la ?l_la ?c_la ?k_la ?a_in ?i_in ?l_in ?c_in ?k_in ?a_se ?i_se ?l_se ?c_se ?k_se ?a_ge ?i_ge ?l_ge ?c_ge ?k_ge ?a_st ?i_st ?l_st ?c_st ?k_st ?j_ge ?a_of ?r_of ?i_of ?l_of ?c_of ?k_of ?rd ?gaC ?a_lz ?z_list ?z_len ?z_range ?z_int ?z_isinstance ?z_bool ?z_abs ?z_str ?aF ?lF ?tF ?aXV ?ecV ?inV ?tyV ?fnV ?nxV ?aXS ?ecS ?inS ?tyS ?fnS ?nxS ?eVV ?eVS ?eSS ?hVS ?hFE ?hT_la ?hN_la ?hH_la ?hT_or ?hN_or ?hH_or ?hP_la_or
    (case aC => k_is)
    (case a_lz => k_is)
    (case aF => k_is)
    (case aXV => k_is)
    (case aXS => k_is)
    (case mk => k_is)
    (case kC => k_is)
    (case pg => k_is)
    (case hd => k_is)
    (case po => k_is)
    (case sa => k_is)
    (case nS => k_is)
    (case nR => k_is)
    (case aG => k_is)
    (case nq => first | k_is | rfl | decide +kernel)
    (case iN => k_is)
    (case iT => k_is)
    (case a_pe => k_is)
    (case l_pe => k_is)
    (case c_pe => k_is)
    (case k_pe => k_is)
    (case a_dr => k_is)
    (case l_dr => k_is)
    (case c_dr => k_is)
    (case k_dr => k_is)
    (case a_pi => k_is)
    (case l_pi => k_is)
    (case c_pi => k_is)
    (case k_pi => k_is)
    (case a_ro => k_is)
    (case l_ro => k_is)
    (case c_ro => k_is)
    (case k_ro => k_is)
    (case a_rt => k_is)
    (case l_rt => k_is)
    (case c_rt => k_is)
    (case k_rt => k_is)
    (case a_td => k_is)
    (case l_td => k_is)
    (case c_td => k_is)
    (case k_td => k_is)
    (case a_or => k_is)
    (case l_or => k_is)
    (case c_or => k_is)
    (case k_or => k_is)
    (case a_ck => k_is)
    (case l_ck => k_is)
    (case c_ck => k_is)
    (case k_ck => k_is)
    (case a_la => k_is)
    (case l_la => k_is)
    (case c_la => k_is)
    (case k_la => k_is)
    (case a_in => k_is)
    (case i_in => k_is)
    (case l_in => k_is)
    (case c_in => k_is)
    (case k_in => k_is)
    (case a_se => k_is)
    (case i_se => k_is)
    (case l_se => k_is)
    (case c_se => k_is)
    (case k_se => k_is)
    (case a_ge => k_is)
    (case i_ge => k_is)
    (case l_ge => k_is)
    (case c_ge => k_is)
    (case k_ge => k_is)
    (case a_st => k_is)
    (case i_st => k_is)
    (case l_st => k_is)
    (case c_st => k_is)
    (case k_st => k_is)
    (case j_ge => k_is)
    (case a_of => k_is)
    (case r_of => k_is)
    (case i_of => k_is)
    (case l_of => k_is)
    (case c_of => k_is)
    (case k_of => k_is)
    (case rd => k_is)
    (case gaC => k_is)
    (case z_list => k_is)
    (case z_len => k_is)
    (case z_range => k_is)
    (case z_int => k_is)
    (case z_isinstance => k_is)
    (case z_bool => k_is)
    (case z_abs => k_is)
    (case z_str => k_is)
    (case lF => (repeat' apply Exists.intro); k_is)
    (case tF => k_is)
    (case ecV => refine' Fp.EC.mk (Fp.ClF.mk ?h1) ?h2 ?h3 ?h4 ?h5 ?h6; (case h1 => (repeat' apply Exists.intro); k_is); (case h2 => k_is); (case h3 => k_is); (case h4 => k_is); (case h5 => k_is); (case h6 => k_is))
    (case inV => k_is)
    (case tyV => k_is)
    (case fnV => (repeat' apply Exists.intro); refine' ⟨?h1, ?h2, ?h3⟩; (case h1 => k_is); (case h2 => k_is); (case h3 => k_is))
    (case nxV => k_is)
    (case ecS => refine' Fp.EC.mk (Fp.ClF.mk ?h1) ?h2 ?h3 ?h4 ?h5 ?h6; (case h1 => (repeat' apply Exists.intro); k_is); (case h2 => k_is); (case h3 => k_is); (case h4 => k_is); (case h5 => k_is); (case h6 => k_is))
    (case inS => k_is)
    (case tyS => k_is)
    (case fnS => (repeat' apply Exists.intro); refine' ⟨?h1, ?h2, ?h3⟩; (case h1 => k_is); (case h2 => k_is); (case h3 => k_is))
    (case nxS => k_is)
    (case eVV => first | k_is | rfl | decide +kernel)
    (case eVS => first | k_is | rfl | decide +kernel)
    (case eSS => first | k_is | rfl | decide +kernel)
    (case hVS => decide)
    (case hFE => decide)
    (case hT_la => exact hT8 _ (List.mem_cons_of_mem _ List.mem_cons_self))
    (case hN_la => kernel_rfl)
    (case hH_la => exact PySem.W.codeHd_of_K KX (by kernel_rfl))
    (case hT_or => exact hT8 _ List.mem_cons_self)
    (case hN_or => kernel_rfl)
    (case hH_or => exact PySem.W.codeHd_of_K KX (by kernel_rfl))
    (case hP_la_or => decide)
