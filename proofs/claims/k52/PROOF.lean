import PyProof.Rows.All
import Wide.All
import OpenK.AllK
import Wide.FinOn
import HandS.ForMost
import HandS.IsInst
import HandS.Sort
import HandS.Conv
import HandS.ClsMeth
import HandS.CallLocal
import HandS.Codes
import HandS.NoneIn
import HandS.Walk
import HandS.Defaults
import HandS.Strs
import HandS.SlotsOwn
import HandS.TupAny
import HandS.TupMul
import HandS.Deep
import HandS.FStr
import HandS.Zip
import HandS.TupLe
import HandS.Star
import HandS.TupSets
import KE.DataCmp
import HandS.Flow
import KE.GoesEnumKw
import KE.KUnpackStar
import PySem.Challenge.RW_downpass_k52_rows_hold
set_option Elab.async false
set_option linter.all false
set_option maxRecDepth 100000
set_option maxHeartbeats 4000000
namespace DP
open PySem PySem.Spec PyProof.Rows L2
/-- the built-in names that the text leaves alone -/
structure Bt (mg : Str → Option Value) : Prop where
  len : mg "len" = none
  range : mg "range" = none
  int : mg "int" = none
  str : mg "str" = none
  tuple : mg "tuple" = none
  sum : mg "sum" = none
  max : mg "max" = none
  min : mg "min" = none
  all : mg "all" = none
  enumerate : mg "enumerate" = none
structure DefOk (P : Program) (w : World) (K : PySem.W.Frag) (mg : Str → Option Value) (base : Heap) (CX : CXT) (k : Nat) (x : Str) (ps : List Str) (sp : Sp) : Prop where
  ex : ∃ f fd, FnOk P w K mg base CX k f fd ps sp ∧ mg x = some (.ref f) ∧ PySem.W.keepIn K (.ref f) = true ∧ Binds K fd ps [] ∧ ∃ oc od osl, K.lookup f = some ⟨oc, od, .func fd, osl⟩
/-- where a def stands -/
structure At (K : PySem.W.Frag) (mg : Str → Option Value) (x : Str) (st : Stmt) (ps : List Str) : Prop where
  ex : ∃ f fd, Fun K x x st f fd ∧ mg x = some (.ref f) ∧ Binds K fd ps []
theorem pe_f {X : Cx} {CX : CXT} {k : Nat} {x : Str} {ps : List Str} {sp : Sp} {E : XK} {e : Expr} {es : List Expr} {t : TA} {p pos : Pos} (D : DefOk X.prog X.w X.K X.mg X.base CX k x ps sp) (hr : Room k X.A) (hx : Passes CX X E) (ha : PA X (e :: es) t)
    (hg : Gl X x := by rfl) (hdb : (x == ("__debug__" : Str)) = false := by decide) (he : starEach (e :: es) X.env = (false, eval e X.env) :: starEach es X.env := by rfl) (hpl : (backTo pos (starEach es X.env)).any (·.1) = false := by rfl) :
    PE X (.Call (.Name x p) (e :: es) [] pos) (tCall sp [] E t) := by
  obtain ⟨f, fd, G, m, kp, b, _⟩ := D.ex
  exact pe_call G hr hg m kp b .nil hx ha hdb he hpl
section
variable {P : Program} {w : World} {K : PySem.W.Frag} {mg : Str → Option Value} {base : Heap} {x : Str} {st : Stmt} {ps N : List Str} {k : Nat} {sp sp' : Sp}
theorem At.ok (F : At K mg x st ps) (S : FnScope N ps (defScope st)) (len : ∀ vs H Q E, sp vs H Q E → vs.length = ps.length)
    (hbody : ∀ (f : Addr) (cdv : Value) (A : Around) (outer : List Env) (s : Shared) (H : Hp) (vs : List V) (Q : VK) (E : XK), Room k (A.deeper (envOfC x (defScope st) s.heap.objs.size f cdv)) → sp vs H Q E →
      ∃ t, PSs (cxOf CX0 P w K mg base N x (defScope st) f cdv A outer s H E).nox (defBody st) t ∧ t { nx := fun _ H' => Q .non H', rt := Q } (start N vs) H) : DefOk P w K mg base CX0 (k + 1) x ps sp := by
  obtain ⟨f, fd, G, m, b⟩ := F.ex
  obtain ⟨oc, od, _, _, _, _, _, _, osl, _, lk, _⟩ := G.ex
  exact ⟨f, fd, G.ok S len (fun cdv A outer s H vs Q E hr h => hbody f cdv A outer s H vs Q E hr h), m, G.kp, b, oc, od, osl, lk⟩
/-- the law's def, for the end -/
theorem At.end_ {l : PySem.W.OpenLaw} {fa : Addr} (F : At K mg x st ["script"]) (hfa : mg x = some (.ref fa)) (h : ∀ base : Heap, DefOk l.prog w K mg base CX0 k x ["script"] sp)
    (hb : ∀ (kV doc pm : Value) (an : Option Addr) (cdv ct v : Value), bindArgs (PySem.W.fnOf x x (defArgs st) (defBody st) (defScope st) .none kV doc pm an cdv ct) ⟨[v], []⟩ = pure [(("script" : Str), v)]) :
    ∃ fd : FuncData, (∀ (s : Shared) (v : Value), BindsTo s fd ⟨[v], []⟩ [("script", v)]) ∧ ∀ base : Heap, K.In base → base.Ns mainGlobals mg → FnOk l.prog w K mg base CX0 k fa fd ["script"] sp := by
  obtain ⟨f, fd, G, m, b⟩ := F.ex
  rw [hfa] at m
  cases m
  refine ⟨fd, fun s v => ?_, fun base _ _ => ?_⟩
  · obtain ⟨oc, od, kV, doc, pm, an, cdv, ct, osl, rfl, lk, _⟩ := G.ex
    exact .of_eq (hb kV doc pm an cdv ct v)
  obtain ⟨f', fd', G', m', _, _, oc', od', osl', lk'⟩ := (h base).ex
  rw [hfa] at m'
  cases m'
  obtain ⟨oc, od, _, _, _, _, _, _, osl, _, lk, _⟩ := G.ex
  rw [lk] at lk'
  cases lk'
  exact G'
end
theorem at_mk {h : Heap} {K : PySem.W.Frag} {mg : Str → Option Value} (X : K.In h) (G : h.Ns mainGlobals mg) {x : Str} {st : Stmt} {ps : List Str} {f : Addr} {oc : Value} {od an : Option Addr} {osl : Array (Option Value)} {kV doc pm cdv ct : Value}
    (a : PySem.W.nsIn K mainGlobals x = some (some (.ref f))) (l : K.lookup f = some ⟨oc, od, .func (PySem.W.fnOf x x (defArgs st) (defBody st) (defScope st) .none kV doc pm an cdv ct), osl⟩)
    (c : PySem.W.codeIn K cdv x = true) (k : PySem.W.keepIn K (.ref f) = true)
    (hb : ∀ (kV doc pm : Value) (an : Option Addr) (cdv ct : Value) (us : List Value), us.length = ps.length → bindArgs (PySem.W.fnOf x x (defArgs st) (defBody st) (defScope st) .none kV doc pm an cdv ct) ⟨us, []⟩ = pure (ps.zip us)) : At K mg x st ps := by
  have F := fun_mk (st := st) l c k
  exact ⟨f, _, F, PySem.W.mg_of X G a, F.binds hb⟩
theorem same_new {H : Hp} {p : Addr} (h : H p = none) (o : HO) : Same H (upd H p o) := fun b u q => by rw [upd_ne (ne_of_none q h)]; exact q
theorem same_at {H H' : Hp} {p : Addr} (h : H p = none) (s : Same H H') (o : HO) : Same H (upd H' p o) := fun b u q => by rw [upd_ne (ne_of_none q h)]; exact s _ _ q
theorem Same.tup {K : PySem.W.Frag} {H H' : Hp} {a : Addr} {xs : List V} (e : Same H H') (h : SqT K H a xs) : SqT K H' a xs := by
  rcases h with (h | ⟨o, h⟩) | h
  · exact .inl (.inl (e _ _ h))
  · exact .inl (.inr ⟨o, e _ _ h⟩)
  · exact .inr h
theorem iteT' {c : Bool} {A B : Prop} (e : c = true) (h : A) : if c = true then A else B := by
  rw [if_pos e]
  exact h
theorem iteF' {c : Bool} {A B : Prop} (e : c = false) (h : B) : if c = true then A else B := by
  rw [e]
  exact iteF h
theorem small {n : Nat} (h : n ≤ 1000) : n ≤ sizeLine := Nat.le_of_lt (small1000 h)
section
variable {X : Cx} {K : PySem.W.Frag}
theorem ix_tupK (h : X.K = K) : IxR X (rIxT K) := by subst h; exact ix_tup
end
end DP
namespace DP
open PySem PySem.Spec PyProof.Rows L2
/-- a span of two ints -/
def SpanV (K : PySem.W.Frag) (H : Hp) (x : V) (q : Int × Int) : Prop := ∃ t, x = .ref t ∧ SqT K H t [.int q.1, .int q.2]
abbrev Spans (K : PySem.W.Frag) (H : Hp) (xs : List V) (qs : List (Int × Int)) : Prop := Paired (SpanV K H) xs qs
theorem paired_snoc {α β : Type} {F : α → β → Prop} : ∀ {xs : List α} {ys : List β} {x : α} {y : β}, Paired F xs ys → F x y → Paired F (xs ++ [x]) (ys ++ [y])
  | _, _, _, _, .nil, h => .cons h .nil
  | _, _, _, _, .cons a t, h => .cons a (paired_snoc t h)
theorem paired_at {α β : Type} {F : α → β → Prop} : ∀ {xs : List α} {ys : List β} {i : Nat} {x : α}, Paired F xs ys → xs[i]? = some x → ∃ y, ys[i]? = some y ∧ F x y
  | _, _, _, _, .nil, h => by simp at h
  | _, _, 0, _, .cons a _, h => ⟨_, rfl, by rw [← Option.some.inj h]; exact a⟩
  | _, _, i + 1, _, .cons _ t, h => by
    obtain ⟨y, h1, h2⟩ := paired_at (i := i) t h
    exact ⟨y, h1, h2⟩
theorem paired_len {α β : Type} {F : α → β → Prop} {xs : List α} {ys : List β} (h : Paired F xs ys) : xs.length = ys.length := Paired.length h
/-- a tuple stands where a list is changed -/
theorem sqT_upd {K : PySem.W.Frag} {H : Hp} {t L : Addr} {xs ys : List V} {o : HO} (h : SqT K H t xs) (e : H L = some (.lst ys)) : SqT K (upd H L o) t xs := by
  rcases h with (h | ⟨u, h⟩) | h
  · exact .inl (.inl (by rw [upd_ne (ne_of h e (fun z => nomatch z))]; exact h))
  · exact .inl (.inr ⟨u, by rw [upd_ne (ne_of h e (fun z => nomatch z))]; exact h⟩)
  · exact .inr h
theorem Spans.upd {K : PySem.W.Frag} {H : Hp} {L : Addr} {xs ys : List V} {qs : List (Int × Int)} {o : HO} (h : Spans K H xs qs) (e : H L = some (.lst ys)) : Spans K (L2.upd H L o) xs qs :=
  Paired.mapP h fun _ _ ⟨t, h1, h2⟩ => ⟨t, h1, sqT_upd h2 e⟩
theorem Spans.same {K : PySem.W.Frag} {H H' : Hp} {xs : List V} {qs : List (Int × Int)} (h : Spans K H xs qs) (s : Same H H') : Spans K H' xs qs :=
  Paired.mapP h fun _ _ ⟨t, h1, h2⟩ => ⟨t, h1, Same.tup s h2⟩
/-- the minutes from f to e - 1 in one span -/
def mwOne (f e : Int) (q : Int × Int) : Int := if (if q.2 < e then q.2 else e) - (if q.1 > f then q.1 else f) > 0 then (if q.2 < e then q.2 else e) - (if q.1 > f then q.1 else f) else 0
def mw (qs : List (Int × Int)) (f e : Int) : Int := (qs.map (mwOne f e)).sum
def hasM (m : Int) (q : Int × Int) : Bool := decide (q.1 ≤ m) && decide (m < q.2)
theorem mwOne_le {f e : Int} {q : Int × Int} (h : e ≤ f) : mwOne f e q = 0 := by
  unfold mwOne
  split <;> split <;> split <;> omega
theorem mw_le {f e : Int} (h : e ≤ f) : ∀ qs : List (Int × Int), mw qs f e = 0
  | [] => rfl
  | q :: r => by
    show mwOne f e q + mw r f e = 0
    rw [mwOne_le h, mw_le h r]
    rfl
theorem mwOne_succ {f e : Int} {q : Int × Int} (h : f ≤ e) (hq : q.1 < q.2) : mwOne f (e + 1) q = mwOne f e q + (if hasM e q = true then 1 else 0) := by
  unfold mwOne hasM
  by_cases c1 : q.1 ≤ e
  · by_cases c2 : e < q.2
    · rw [decide_eq_true c1, decide_eq_true c2]
      rw [if_pos (show (true && true) = true from rfl)]
      repeat' (first | omega | split)
    · rw [decide_eq_false c2, Bool.and_false, if_neg Bool.false_ne_true]
      repeat' (first | omega | split)
  · rw [decide_eq_false c1, Bool.false_and, if_neg Bool.false_ne_true]
    repeat' (first | omega | split)
theorem mw_succ {f e : Int} (h : f ≤ e) : ∀ qs : List (Int × Int), (∀ q ∈ qs, q.1 < q.2) → mw qs f (e + 1) = mw qs f e + ((qs.filter (hasM e)).length : Int)
  | [], _ => rfl
  | q :: r, hq => by
    have ih := mw_succ h r fun x hx => hq x (List.mem_cons_of_mem _ hx)
    have h1 := mwOne_succ h (hq q List.mem_cons_self)
    show mwOne f (e + 1) q + mw r f (e + 1) = mwOne f e q + mw r f e + _
    rw [ih, h1, List.filter_cons]
    by_cases c : hasM e q = true
    · rw [if_pos c, if_pos c, List.length_cons]
      omega
    · rw [if_neg c, if_neg c]
      omega
end DP
namespace DP
open PySem PySem.Spec PyProof.Rows L2
abbrev tl (x : Str) : List Nat := TL.tl x
def num (n : Int) : Str := Str.ofString (toString n)
/-- a word of a line -/
def WdOk (w : Str) : Prop := tl w ≠ [] ∧ 32 ∉ tl w ∧ 10 ∉ tl w ∧ (tl w).length ≤ 16
def isL (c : Nat) : Bool := (decide (65 ≤ c) && decide (c ≤ 90)) || (decide (97 ≤ c) && decide (c ≤ 122))
def isD (c : Nat) : Bool := decide (48 ≤ c) && decide (c ≤ 57)
def NameOk (w : Str) : Prop := ∃ c r, tl w = c :: r ∧ isL c = true ∧ (∀ x ∈ r, (isL x || isD x) = true) ∧ r.length ≤ 14
theorem isL_lt {c : Nat} (h : isL c = true) : 65 ≤ c ∧ c ≤ 122 := by
  unfold isL at h
  simp only [Bool.or_eq_true, Bool.and_eq_true, decide_eq_true_eq] at h
  omega
theorem isD_lt {c : Nat} (h : isD c = true) : 48 ≤ c ∧ c ≤ 57 := by
  unfold isD at h
  simp only [Bool.and_eq_true, decide_eq_true_eq] at h
  omega
theorem sign_lt {c : Nat} (h : (isL c || isD c) = true) : 48 ≤ c ∧ c ≤ 122 := by
  rcases Bool.or_eq_true _ _ ▸ h with h | h
  · have := isL_lt h; omega
  · have := isD_lt h; omega
theorem NameOk.signs {w : Str} (h : NameOk w) : ∀ c ∈ tl w, (isL c || isD c) = true := by
  obtain ⟨c, r, e, hc, hr, _⟩ := h
  intro x hx
  rw [e] at hx
  rcases List.mem_cons.mp hx with rfl | hx
  · rw [hc]; rfl
  · exact hr x hx
theorem NameOk.wd {w : Str} (h : NameOk w) : WdOk w := by
  have hs := h.signs
  obtain ⟨c, r, e, hc, hr, hl⟩ := h
  refine ⟨by rw [e]; exact List.cons_ne_nil _ _, fun z => ?_, fun z => ?_, by rw [e, List.length_cons]; omega⟩
  · have := sign_lt (hs _ z); omega
  · have := sign_lt (hs _ z); omega
theorem num_nat {n : Int} (h : 0 ≤ n) : tl (num n) = TL.numL n.toNat := by
  have e : n = ((n.toNat : Nat) : Int) := by omega
  unfold num
  rw [e]
  exact TL.tl_num _
theorem numL_len7 {n : Nat} (h : n < 10000000) : (TL.numL n).length ≤ 7 := TL.numL_len (k := 7) (by decide) (by omega)
theorem num_wd {n : Int} (h0 : 0 ≤ n) (h1 : n < 10000000) : WdOk (num n) := by
  refine ⟨?_, ?_, ?_, ?_⟩
  · rw [num_nat h0]; exact TL.numL_ne _
  · rw [num_nat h0]; exact TL.numL_free (by omega)
  · rw [num_nat h0]; exact TL.numL_free (by omega)
  · rw [num_nat h0]; exact Nat.le_trans (numL_len7 (by omega)) (by decide)
/-- 0, or no 0 ahead -/
theorem numL_head {n : Nat} : ∀ r, TL.numL n = 48 :: r → n = 0 := by
  induction n using Nat.strongRecOn with
  | _ n ih =>
    intro r h
    by_cases c : n < 10
    · rw [TL.numL_lt c] at h
      have := (List.cons.inj h).1
      omega
    · rw [TL.numL_step (by omega)] at h
      cases q : TL.numL (n / 10) with
      | nil => exact absurd q (TL.numL_ne _)
      | cons a b =>
        rw [q] at h
        have e := (List.cons.inj h).1
        have := ih (n / 10) (by omega) b (by rw [q, e])
        omega
theorem num_inj {m n : Int} (hm : 0 ≤ m) (hn : 0 ≤ n) (h : num m = num n) : m = n := by
  have e : tl (num m) = tl (num n) := congrArg tl h
  rw [num_nat hm, num_nat hn] at e
  have := TL.numL_inj e
  omega
def sp : Str := Str.ofString " "
def nl : Str := Str.ofString "\n"
theorem tl_sp : tl sp = [32] := by decide +kernel
theorem tl_nl : tl nl = [10] := by decide +kernel
def row (ws : List Str) : Str := Str.join sp ws
theorem joinL_free {c : Nat} {S : List Nat} (hS : c ∉ S) : ∀ ps : List (List Nat), (∀ p ∈ ps, c ∉ p) → c ∉ TL.joinL S ps
  | [], _ => List.not_mem_nil
  | [p], h => h p List.mem_cons_self
  | p :: q :: r, h => by
    show c ∉ p ++ (S ++ TL.joinL S (q :: r))
    have ih := joinL_free hS (q :: r) fun x hx => h x (List.mem_cons_of_mem _ hx)
    intro z
    rcases List.mem_append.mp z with z | z
    · exact h p List.mem_cons_self z
    · rcases List.mem_append.mp z with z | z
      · exact hS z
      · exact ih z
theorem joinL_len {m : Nat} {S : List Nat} : ∀ ps : List (List Nat), (∀ p ∈ ps, p.length ≤ m) → (TL.joinL S ps).length ≤ ps.length * (m + S.length)
  | [], _ => Nat.zero_le _
  | [p], h => by
    have := h p List.mem_cons_self
    show p.length ≤ 1 * (m + S.length)
    omega
  | p :: q :: r, h => by
    have ih := joinL_len (S := S) (q :: r) fun x hx => h x (List.mem_cons_of_mem _ hx)
    have h1 := h p List.mem_cons_self
    show (p ++ (S ++ TL.joinL S (q :: r))).length ≤ ((q :: r).length + 1) * (m + S.length)
    rw [List.length_append, List.length_append, Nat.add_mul]
    omega
theorem row_free {ws : List Str} (h : ∀ w ∈ ws, WdOk w) : 10 ∉ tl (row ws) := by
  unfold row
  rw [show tl (Str.join sp ws) = TL.joinL (tl sp) (ws.map tl) from TL.tl_join sp ws]
  refine joinL_free (by rw [tl_sp]; decide) _ fun p hp => ?_
  obtain ⟨w, hw, rfl⟩ := List.mem_map.mp hp
  exact (h w hw).2.2.1
theorem row_len {ws : List Str} (h : ∀ w ∈ ws, WdOk w) : (row ws).length ≤ ws.length * 17 := by
  rw [TL.len_tl]
  unfold row
  rw [show TL.tl (Str.join sp ws) = TL.joinL (tl sp) (ws.map tl) from TL.tl_join sp ws]
  have := joinL_len (m := 16) (S := tl sp) (ws.map tl) fun p hp => by
    obtain ⟨w, hw, rfl⟩ := List.mem_map.mp hp
    exact (h w hw).2.2.2
  rw [List.length_map, tl_sp] at this
  rw [tl_sp]
  exact this
theorem row_split {ws : List Str} (hn : ws ≠ []) (h : ∀ w ∈ ws, WdOk w) : Txt.split (row ws) sp = ws := by
  have e := TL.split_join (y := sp) (s := 32) (S := []) tl_sp (by decide +kernel) hn (fun p hp => (h p hp).2.1)
  rw [TL.join_eq] at e
  exact e
/-- the text of rows, each with its newline -/
def glue (rows : List Str) : Str := Str.join nl (rows ++ [Str.empty])
theorem glue_split {rows : List Str} (h : ∀ r ∈ rows, 10 ∉ tl r) : Txt.split (glue rows) nl = rows ++ [Str.empty] := by
  have e := TL.split_join (y := nl) (s := 10) (S := []) tl_nl (by decide +kernel) (parts := rows ++ [Str.empty]) (by simp) (fun p hp => by
    rcases List.mem_append.mp hp with hp | hp
    · exact h p hp
    · rw [List.mem_singleton.mp hp]
      exact List.not_mem_nil)
  rw [TL.join_eq] at e
  exact e
theorem glue_tl : ∀ rows : List Str, tl (glue rows) = (rows.map fun r => tl r ++ [10]).flatten
  | [] => rfl
  | [r] => by
    show tl (r ++ nl ++ Str.empty) = tl r ++ [10] ++ []
    rw [show tl (r ++ nl ++ Str.empty) = tl (r ++ nl) ++ tl Str.empty from TL.tl_append _ _, show tl (r ++ nl) = tl r ++ tl nl from TL.tl_append _ _, tl_nl]
    rfl
  | r :: q :: z => by
    have ih := glue_tl (q :: z)
    show tl (r ++ nl ++ Str.join nl ((q :: z) ++ [Str.empty])) = tl r ++ [10] ++ ((q :: z).map fun r => tl r ++ [10]).flatten
    rw [show tl (r ++ nl ++ Str.join nl ((q :: z) ++ [Str.empty])) = tl (r ++ nl) ++ tl (Str.join nl ((q :: z) ++ [Str.empty])) from TL.tl_append _ _, show tl (r ++ nl) = tl r ++ tl nl from TL.tl_append _ _, tl_nl, ← ih]
    rfl
theorem glue_len {rows : List Str} {m : Nat} (h : ∀ r ∈ rows, r.length ≤ m) : (glue rows).length ≤ (rows.length + 1) * (m + 1) := by
  rw [TL.len_tl]
  unfold glue
  rw [show TL.tl (Str.join nl (rows ++ [Str.empty])) = TL.joinL (tl nl) ((rows ++ [Str.empty]).map tl) from TL.tl_join _ _]
  have := joinL_len (m := m) (S := tl nl) ((rows ++ [Str.empty]).map tl) fun p hp => by
    obtain ⟨w, hw, rfl⟩ := List.mem_map.mp hp
    rcases List.mem_append.mp hw with hw | hw
    · have := h w hw
      rw [TL.len_tl] at this
      exact this
    · rw [List.mem_singleton.mp hw]
      exact Nat.zero_le _
  rw [List.length_map, List.length_append, tl_nl] at this
  rw [tl_nl]
  exact this
structure SatD where
  name : Str
  store : Int
  battery : Int
  level : Int
  reserve : Int
  charge : Int
  settle : Int
  light : List (Int × Int)
structure StaD where
  name : Str
  antennas : Int
  turn : Int
structure RecD where
  name : Str
  sat : Nat
  earliest : Int
  latest : Int
  length : Int
  size : Int
  energy : Int
  worth : Int
  rank : Int
  deadline : Int
structure PasD where
  name : Str
  sat : Nat
  sta : Nat
  first : Int
  fin : Int
  room : Int
  energy : Int
  fee : Int
structure WorldD where
  horizon : Int
  sats : List SatD
  stas : List StaD
  recs : List RecD
  pass : List PasD
def lightW : List (Int × Int) → List Str
  | [] => []
  | q :: r => num q.1 :: num q.2 :: lightW r
def wHor (h : Int) : List Str := [Str.ofString "horizon", num h]
def wSat (s : SatD) : List Str := [Str.ofString "satellite", s.name, Str.ofString "store", num s.store, Str.ofString "battery", num s.battery, Str.ofString "level", num s.level,
  Str.ofString "reserve", num s.reserve, Str.ofString "charge", num s.charge, Str.ofString "settle", num s.settle, Str.ofString "light"] ++ lightW s.light
def wSta (s : StaD) : List Str := [Str.ofString "station", s.name, Str.ofString "antennas", num s.antennas, Str.ofString "turn", num s.turn]
def satN (W : WorldD) (i : Nat) : Str := ((W.sats.map (·.name))[i]?).getD Str.empty
def staN (W : WorldD) (i : Nat) : Str := ((W.stas.map (·.name))[i]?).getD Str.empty
def wRec (W : WorldD) (r : RecD) : List Str := [Str.ofString "recording", r.name, Str.ofString "by", satN W r.sat, Str.ofString "from", num r.earliest, Str.ofString "to", num r.latest,
  Str.ofString "length", num r.length, Str.ofString "size", num r.size, Str.ofString "energy", num r.energy, Str.ofString "worth", num r.worth, Str.ofString "rank", num r.rank, Str.ofString "until", num r.deadline]
def wPas (W : WorldD) (p : PasD) : List Str := [Str.ofString "pass", p.name, Str.ofString "by", satN W p.sat, Str.ofString "over", staN W p.sta, Str.ofString "from", num p.first, Str.ofString "to", num p.fin,
  Str.ofString "room", num p.room, Str.ofString "energy", num p.energy, Str.ofString "fee", num p.fee]
def linesW (W : WorldD) : List (List Str) := wHor W.horizon :: (W.sats.map wSat ++ W.stas.map wSta ++ W.recs.map (wRec W) ++ W.pass.map (wPas W))
def textW (W : WorldD) : Str := glue ((linesW W).map row)
def LightOk : Int → Int → List (Int × Int) → Prop
  | _, _, [] => True
  | least, h, q :: r => least ≤ q.1 ∧ q.1 + 1 ≤ q.2 ∧ q.2 ≤ h ∧ LightOk q.2 h r
structure SatOk (h : Int) (s : SatD) : Prop where
  name : NameOk s.name
  store : 0 ≤ s.store ∧ s.store ≤ 1000000
  battery : 0 ≤ s.battery ∧ s.battery ≤ 1000000
  level : 0 ≤ s.level ∧ s.level ≤ s.battery
  reserve : 0 ≤ s.reserve ∧ s.reserve ≤ s.level
  charge : 0 ≤ s.charge ∧ s.charge ≤ 1000
  settle : 0 ≤ s.settle ∧ s.settle ≤ 60
  light : LightOk 0 h s.light
structure StaOk (s : StaD) : Prop where
  name : NameOk s.name
  antennas : 1 ≤ s.antennas ∧ s.antennas ≤ 3
  turn : 0 ≤ s.turn ∧ s.turn ≤ 60
structure RecOk (W : WorldD) (r : RecD) : Prop where
  name : NameOk r.name
  sat : r.sat < W.sats.length
  earliest : 0 ≤ r.earliest ∧ r.earliest ≤ W.horizon - 1
  latest : r.earliest ≤ r.latest ∧ r.latest ≤ r.earliest + 20 ∧ r.latest ≤ W.horizon - 1
  length : 1 ≤ r.length ∧ r.length ≤ W.horizon - r.latest
  size : 0 ≤ r.size ∧ r.size ≤ 1000000
  energy : 0 ≤ r.energy ∧ r.energy ≤ 1000000
  worth : 1 ≤ r.worth ∧ r.worth ≤ 1000
  rank : 1 ≤ r.rank ∧ r.rank ≤ 3
  deadline : 0 ≤ r.deadline ∧ r.deadline ≤ W.horizon
structure PasOk (W : WorldD) (p : PasD) : Prop where
  name : NameOk p.name
  sat : p.sat < W.sats.length
  sta : p.sta < W.stas.length
  first : 0 ≤ p.first ∧ p.first ≤ W.horizon - 1
  fin : p.first + 1 ≤ p.fin ∧ p.fin ≤ W.horizon
  room : 0 ≤ p.room ∧ p.room ≤ 1000000
  energy : 0 ≤ p.energy ∧ p.energy ≤ 1000000
  fee : 0 ≤ p.fee ∧ p.fee ≤ 1000
structure WorldOk (W : WorldD) : Prop where
  horizon : 1 ≤ W.horizon ∧ W.horizon ≤ 500
  nSats : W.sats.length ≤ 3
  nStas : W.stas.length ≤ 3
  nRecs : W.recs.length ≤ 10
  nPass : W.pass.length ≤ 10
  dSats : (W.sats.map (·.name)).Nodup
  dStas : (W.stas.map (·.name)).Nodup
  dRecs : (W.recs.map (·.name)).Nodup
  dPass : (W.pass.map (·.name)).Nodup
  sats : ∀ s ∈ W.sats, SatOk W.horizon s
  stas : ∀ s ∈ W.stas, StaOk s
  recs : ∀ r ∈ W.recs, RecOk W r
  pass : ∀ p ∈ W.pass, PasOk W p
theorem LightOk.len {h : Int} : ∀ {l : List (Int × Int)} {least : Int}, LightOk least h l → least ≤ h → (l.length : Int) ≤ h - least
  | [], least, _, hl => by show (0 : Int) ≤ h - least; omega
  | q :: r, least, ⟨h1, h2, h3, h4⟩, hl => by
    have := h4.len h3
    rw [List.length_cons]
    omega
theorem LightOk.wd {h : Int} (hh : h ≤ 500) : ∀ {l : List (Int × Int)} {least : Int}, 0 ≤ least → LightOk least h l → ∀ w ∈ lightW l, WdOk w
  | [], _, _, _, w, hw => absurd hw List.not_mem_nil
  | q :: r, least, h0, ⟨h1, h2, h3, h4⟩, w, hw => by
    rcases List.mem_cons.mp hw with rfl | hw
    · exact num_wd (by omega) (by omega)
    · rcases List.mem_cons.mp hw with rfl | hw
      · exact num_wd (by omega) (by omega)
      · exact h4.wd hh (by omega) w hw
theorem lightW_len : ∀ l : List (Int × Int), (lightW l).length = 2 * l.length
  | [] => rfl
  | q :: r => by
    show (lightW r).length + 1 + 1 = 2 * (r.length + 1)
    rw [lightW_len r]
    omega
theorem satN_at {W : WorldD} {i : Nat} (h : i < W.sats.length) : (W.sats.map (·.name))[i]? = some (satN W i) := by
  unfold satN
  rw [List.getElem?_eq_getElem (by rw [List.length_map]; exact h)]
  rfl
theorem staN_at {W : WorldD} {i : Nat} (h : i < W.stas.length) : (W.stas.map (·.name))[i]? = some (staN W i) := by
  unfold staN
  rw [List.getElem?_eq_getElem (by rw [List.length_map]; exact h)]
  rfl
theorem satN_ok {W : WorldD} (w : WorldOk W) {i : Nat} (h : i < W.sats.length) : NameOk (satN W i) := by
  obtain ⟨s, hs, e⟩ := List.mem_map.mp (List.mem_of_getElem? (satN_at h))
  rw [← e]
  exact (w.sats s hs).name
theorem staN_ok {W : WorldD} (w : WorldOk W) {i : Nat} (h : i < W.stas.length) : NameOk (staN W i) := by
  obtain ⟨s, hs, e⟩ := List.mem_map.mp (List.mem_of_getElem? (staN_at h))
  rw [← e]
  exact (w.stas s hs).name
/-- all of a list, one by one -/
theorem all_cons {P : Str → Prop} {a : Str} {l : List Str} (h : P a) (t : ∀ w ∈ l, P w) : ∀ w ∈ a :: l, P w := fun w hw => by
  rcases List.mem_cons.mp hw with rfl | hw
  · exact h
  · exact t w hw
theorem all_nil {P : Str → Prop} : ∀ w ∈ ([] : List Str), P w := fun w hw => absurd hw List.not_mem_nil
theorem all_app {P : Str → Prop} {a b : List Str} (h : ∀ w ∈ a, P w) (t : ∀ w ∈ b, P w) : ∀ w ∈ a ++ b, P w := fun w hw => (List.mem_append.mp hw).elim (h w) (t w)
theorem wHor_wd {W : WorldD} (w : WorldOk W) : ∀ x ∈ wHor W.horizon, WdOk x :=
  all_cons (by unfold WdOk; decide +kernel) (all_cons (num_wd (by have := w.horizon; omega) (by have := w.horizon; omega)) all_nil)
theorem wSat_wd {h : Int} (hh : h ≤ 500) {s : SatD} (w : SatOk h s) : ∀ x ∈ wSat s, WdOk x := by
  have h1 := w.store; have h2 := w.battery; have h3 := w.level; have h4 := w.reserve; have h5 := w.charge; have h6 := w.settle
  exact all_app (all_cons (by unfold WdOk; decide +kernel) (all_cons w.name.wd (all_cons (by unfold WdOk; decide +kernel) (all_cons (num_wd (by omega) (by omega)) (all_cons (by unfold WdOk; decide +kernel) (all_cons (num_wd (by omega) (by omega))
    (all_cons (by unfold WdOk; decide +kernel) (all_cons (num_wd (by omega) (by omega)) (all_cons (by unfold WdOk; decide +kernel) (all_cons (num_wd (by omega) (by omega)) (all_cons (by unfold WdOk; decide +kernel) (all_cons (num_wd (by omega) (by omega))
    (all_cons (by unfold WdOk; decide +kernel) (all_cons (num_wd (by omega) (by omega)) (all_cons (by unfold WdOk; decide +kernel) all_nil))))))))))))))) (w.light.wd hh (Int.le_refl 0))
theorem wSta_wd {s : StaD} (w : StaOk s) : ∀ x ∈ wSta s, WdOk x := by
  have h1 := w.antennas; have h2 := w.turn
  exact all_cons (by unfold WdOk; decide +kernel) (all_cons w.name.wd (all_cons (by unfold WdOk; decide +kernel) (all_cons (num_wd (by omega) (by omega)) (all_cons (by unfold WdOk; decide +kernel) (all_cons (num_wd (by omega) (by omega)) all_nil)))))
theorem wRec_wd {W : WorldD} (w : WorldOk W) {r : RecD} (k : RecOk W r) : ∀ x ∈ wRec W r, WdOk x := by
  have h0 := w.horizon; have h1 := k.earliest; have h2 := k.latest; have h3 := k.length; have h4 := k.size; have h5 := k.energy; have h6 := k.worth; have h7 := k.rank; have h8 := k.deadline
  exact all_cons (by unfold WdOk; decide +kernel) (all_cons k.name.wd (all_cons (by unfold WdOk; decide +kernel) (all_cons (satN_ok w k.sat).wd
    (all_cons (by unfold WdOk; decide +kernel) (all_cons (num_wd (by omega) (by omega)) (all_cons (by unfold WdOk; decide +kernel) (all_cons (num_wd (by omega) (by omega)) (all_cons (by unfold WdOk; decide +kernel) (all_cons (num_wd (by omega) (by omega))
    (all_cons (by unfold WdOk; decide +kernel) (all_cons (num_wd (by omega) (by omega)) (all_cons (by unfold WdOk; decide +kernel) (all_cons (num_wd (by omega) (by omega)) (all_cons (by unfold WdOk; decide +kernel) (all_cons (num_wd (by omega) (by omega))
    (all_cons (by unfold WdOk; decide +kernel) (all_cons (num_wd (by omega) (by omega)) (all_cons (by unfold WdOk; decide +kernel) (all_cons (num_wd (by omega) (by omega)) all_nil)))))))))))))))))))
theorem wPas_wd {W : WorldD} (w : WorldOk W) {p : PasD} (k : PasOk W p) : ∀ x ∈ wPas W p, WdOk x := by
  have h0 := w.horizon; have h1 := k.first; have h2 := k.fin; have h3 := k.room; have h4 := k.energy; have h5 := k.fee
  exact all_cons (by unfold WdOk; decide +kernel) (all_cons k.name.wd (all_cons (by unfold WdOk; decide +kernel) (all_cons (satN_ok w k.sat).wd (all_cons (by unfold WdOk; decide +kernel) (all_cons (staN_ok w k.sta).wd
    (all_cons (by unfold WdOk; decide +kernel) (all_cons (num_wd (by omega) (by omega)) (all_cons (by unfold WdOk; decide +kernel) (all_cons (num_wd (by omega) (by omega)) (all_cons (by unfold WdOk; decide +kernel) (all_cons (num_wd (by omega) (by omega))
    (all_cons (by unfold WdOk; decide +kernel) (all_cons (num_wd (by omega) (by omega)) (all_cons (by unfold WdOk; decide +kernel) (all_cons (num_wd (by omega) (by omega)) all_nil)))))))))))))))
theorem linesW_ok {W : WorldD} (w : WorldOk W) : ∀ l ∈ linesW W, l ≠ [] ∧ (∀ x ∈ l, WdOk x) ∧ l.length ≤ 1015 := by
  intro l hl
  unfold linesW at hl
  rcases List.mem_cons.mp hl with rfl | hl
  · exact ⟨List.cons_ne_nil _ _, wHor_wd w, by show 2 ≤ 1015; decide⟩
  rcases List.mem_append.mp hl with hl | hl
  · rcases List.mem_append.mp hl with hl | hl
    · rcases List.mem_append.mp hl with hl | hl
      · obtain ⟨s, hs, rfl⟩ := List.mem_map.mp hl
        have k := w.sats s hs
        refine ⟨List.cons_ne_nil _ _, wSat_wd w.horizon.2 k, ?_⟩
        have h1 := k.light.len (by have := w.horizon; omega)
        have h2 := w.horizon
        have h3 := lightW_len s.light
        have h4 : (wSat s).length = 15 + (lightW s.light).length := by
          unfold wSat
          rw [List.length_append]
          rfl
        omega
      · obtain ⟨s, hs, rfl⟩ := List.mem_map.mp hl
        exact ⟨List.cons_ne_nil _ _, wSta_wd (w.stas s hs), by show 6 ≤ 1015; decide⟩
    · obtain ⟨s, hs, rfl⟩ := List.mem_map.mp hl
      exact ⟨List.cons_ne_nil _ _, wRec_wd w (w.recs s hs), by show 20 ≤ 1015; decide⟩
  · obtain ⟨s, hs, rfl⟩ := List.mem_map.mp hl
    exact ⟨List.cons_ne_nil _ _, wPas_wd w (w.pass s hs), by show 16 ≤ 1015; decide⟩
theorem linesW_len {W : WorldD} (w : WorldOk W) : (linesW W).length ≤ 27 := by
  have h1 := w.nSats; have h2 := w.nStas; have h3 := w.nRecs; have h4 := w.nPass
  unfold linesW
  rw [List.length_cons, List.length_append, List.length_append, List.length_append, List.length_map, List.length_map, List.length_map, List.length_map]
  omega
theorem textW_len {W : WorldD} (w : WorldOk W) : (textW W).length ≤ 1000000 := by
  have h1 := glue_len (rows := (linesW W).map row) (m := 17255) fun r hr => by
    obtain ⟨l, hl, rfl⟩ := List.mem_map.mp hr
    have h2 := row_len (linesW_ok w l hl).2.1
    have h3 := (linesW_ok w l hl).2.2
    omega
  have h2 := linesW_len w
  rw [List.length_map] at h1
  have h3 : ((linesW W).length + 1) * (17255 + 1) ≤ 28 * 17256 := Nat.mul_le_mul_right _ (by omega)
  show (glue _).length ≤ _
  omega
end DP
namespace DP
open PySem PySem.Spec PyProof.Rows L2
/-- the list at a as it stands at each turn, each item in a new pair with the count from k on -/
def IteS (K : PySem.W.Frag) (a : Addr) (k : Int) : It :=
  ⟨fun i H => ∃ (xs : List V) (x : V), SqL K H a xs ∧ xs[i]? = some x,
   fun i H v H' => ∃ T x, v = .ref T ∧ H T = none ∧ H' = upd H T (.tup [.int (k + (i : Nat)), x]) ∧ ∀ xs, SqL K H a xs → xs[i]? = some x,
   fun i H => ∃ xs : List V, SqL K H a xs ∧ xs.length ≤ i⟩
theorem list_not_iter {h : Heap} {a it : Addr} {its : Array Value} {i : Nat} (l : h.IsList a its) (r : h.IsListIter it a i) : a ≠ it := fun z => by
  obtain ⟨o, ho, hc, _⟩ := l
  obtain ⟨o', ho', hc', _⟩ := r
  rw [z, ho'] at ho
  cases ho
  rw [hc] at hc'
  exact absurd hc' (by decide)
theorem turn_enumS {P : Program} {w : World} {K : PySem.W.Frag} {elts : List Expr} {kk : Nat} {tpos : Pos} (a en it : Addr) (k : Int) :
    Turn P w K (.Tuple elts kk tpos) (IteS K a k) [en, it] en (fun i h => (∃ old, IsEnum h en it (k + ((i : Nat) : Int)) old) ∧ h.IsListIter it a i ∧ en ≠ it) where
  mem := by simp
  obj := fun i h st b hb => by
    obtain ⟨⟨old, hen⟩, ⟨o, ho, hc, hd⟩, _⟩ := st
    have two : b = en ∨ b = it := by simpa using hb
    rcases two with z | z
    · subst z
      exact ⟨_, hen, fun v q => nomatch q⟩
    · subst z
      exact ⟨o, ho, fun v q => by rw [hd] at q; cases q⟩
  keep := fun i h h' st kp => by
    obtain ⟨⟨old, hen⟩, hi, hne⟩ := st
    exact ⟨⟨old, kp en (by simp) _ hen⟩, hi.at fun o q => kp it (by simp) o q, hne⟩
  item := by
    intro X hP hw hK hc i pins s σ H E I hf st hg
    subst hP hw hK
    obtain ⟨⟨old, hen⟩, hit, hne⟩ := st
    obtain ⟨xs, x, hq, hx⟩ := hg
    obtain ⟨its, rv, pl, hz⟩ := I.list hq
    obtain ⟨u, hu, ru⟩ := rv.get hx
    have en_lt : en < s.heap.objs.size := Heap.lt_size hen
    have it_lt : it < s.heap.objs.size := by
      obtain ⟨_, q, _⟩ := hit
      exact Heap.lt_size q
    have nel := list_not_iter pl.isList hit
    have Dr := Draws.list (prog := X.prog) (w := X.w) (A := X.A.in1) (I.ok.hd hc) it a nel its.toArray
    have hi : i < its.toArray.size := by
      have := (List.getElem?_eq_some_iff.mp hu).1
      simpa using this
    by_cases ea : en = a
    · exfalso
      obtain ⟨o, ho, hc', _⟩ := pl.isList
      rw [← ea, hen] at ho
      cases ho
      have e : Value.type "enumerate" = Value.type "list" := hc'
      exact absurd e (by decide)
    refine wpAny_pyNext_enum_itemC Dr hen ⟨hit, pl.isList⟩ hi hne (by simp [hne, ea]) fun x' h' tk hP ho hit' hT hsz hk => ?_
    have ex : x' = u := by
      have e1 : its.toArray[i]? = some x' := hP
      have e2 : its.toArray[i]? = some u := by simpa using hu
      exact Option.some.inj (e1.symm.trans e2)
    subst ex
    refine ⟨_, rfl, wpAny_letOwnedTupleGo_enum (s := { s with heap := h', toks := tk + 1 }) ho fun h2 hen2 sb => ?_⟩
    have hT2 : h2.get? s.heap.objs.size = some { cls := .type "tuple", data := .seq #[.int (k + (i : Int)) tk, x'] } :=
      (sb.2 _ (Nat.ne_of_gt en_lt)).trans hT
    have fresh : H s.heap.objs.size = none := I.hok.fresh (Nat.le_refl _)
    have new : ObjOk X.prog X.w (upd H s.heap.objs.size (.tup [.int (k + (i : Nat)), x])) h2 s.heap.objs.size (.tup [.int (k + (i : Nat)), x]) :=
      ⟨(by show 2 ≤ sizeLine; decide), [.int (k + (i : Int)) tk, x'], .cons ⟨_, rfl⟩ (.cons ru .nil), ⟨_, hT2, rfl, _, rfl⟩⟩
    have keepAll : ∀ b ob, b ∉ [en, it] → s.heap.get? b = some ob → h2.get? b = some ob := fun b ob hb q => by
      have n1 : b ≠ en := fun z => hb (by simp [z])
      have n2 : b ≠ it := fun z => hb (by simp [z])
      exact (sb.2 b n1).trans (hk b ob n1 n2 q)
    have I1 := I.turnedNew (t' := tk + 1) (ch := [en, it]) keepAll hf (Nat.le_refl _) new
    refine ⟨.ref s.heap.objs.size, _, I1, rfl, ⟨_, x, rfl, fresh, rfl, fun ys hy => ?_⟩, ⟨⟨x', ?_⟩, ?_, hne⟩, fun b hb => ?_⟩
    · rw [I.list_inj hy hq]
      exact hx
    · have e1 : k + ((i + 1 : Nat) : Int) = k + (i : Int) + 1 := by omega
      rw [e1]
      exact hen2
    · exact hit'.1.at fun o q => (sb.2 it (Ne.symm hne)).trans q
    · have hb' : b < s.heap.objs.size := by
        have two : b = en ∨ b = it := by simpa using hb
        rcases two with z | z
        · rw [z]; exact en_lt
        · rw [z]; exact it_lt
      rw [upd_ne (Nat.ne_of_lt hb')]
      exact (hf b hb).1
  done := by
    intro X hP hw hK hc i pins s σ H E I hf st hg
    subst hP hw hK
    obtain ⟨⟨old, hen⟩, hit, hne⟩ := st
    obtain ⟨xs, hq, hx⟩ := hg
    obtain ⟨its, rv, pl, hz⟩ := I.list hq
    have hl := rv.length
    obtain ⟨f0, f1, f2, f3, f4, f5⟩ := hf it (by simp)
    have hT : s.TypeIs (.ref en) "enumerate" := ⟨_, hen, rfl⟩
    unfold pyNext
    refine wpAny_bind (wpAny_attempt (wpAny_callSpecial?_slot (name := Str.ofString "__next__") hT F.slot_enumerate_next
      (wpAny_call_entry F.slot_enumerate_next hT F.entry_enumerate_next ?_
        (F.args_enumerate_next_1 _))))
    show wpAny _ _ (field (.ref en) 2 >>= _) _ _ _
    refine wpAny_bind (wpAny_field hen rfl (x := .ref it) rfl ?_)
    refine wpAny_bind (wpAny_nextOf_list_end (I.ok.hd hc) hit pl.isList (by simp; omega) fun h' e eb hcl => ?_)
    obtain ⟨o, ho, hcs⟩ := hcl
    refine wpAny_bind (wpAny_isInstance (T := "StopIteration") (b := true) ⟨o, ho, hcs⟩ isSubtype_stop ?_)
    exact wpAny_pure ⟨rfl, I.turned (t' := s.toks) (fun b o hb q => eb b o hb q) f0 f1 f3 f4 f5⟩
  self := fun A i s Q E st h => let ⟨⟨_, hen⟩, _⟩ := st; wpAny_pyIter_enum hen h
/-- enumerate(xs, start=k), walked into a written tuple of names -/
def iEnumS (K : PySem.W.Frag) (ta tk : TA) : TI := fun σ H R => ta σ H fun vs H1 => tk σ H1 fun zs H2 =>
  ∃ a xs k, vs = [.ref a] ∧ zs = [.int k] ∧ SqL K H2 a xs ∧ -(2 ^ 63) ≤ k ∧ k < 2 ^ 63 ∧ R (IteS K a k) H2
theorem pi_enumS {X : Cx} {e ke : Expr} {ta tk : TA} {p pos tpos kp : Pos} {elts : List Expr} {kk : Nat} (hg : Gl X "enumerate") (hm : X.mg "enumerate" = none) (ha : PA X [e] ta) (hk : PK X [⟨some "start", ke, kp⟩] tk)
    (hs : starEach [e] X.env = (false, eval e X.env) :: starEach [] X.env := by rfl) (hpl : ((backTo pos (starEach [e] X.env)).any (·.1) || (backToKw pos (keywordEach [⟨some "start", ke, kp⟩] X.env)).any (·.1.isNone)) = false := by rfl) :
    PI X (.Tuple elts kk tpos) (.Call (.Name "enumerate" p) [e] [⟨some "start", ke, kp⟩] pos) (iEnumS X.K ta tk) := by
  refine ⟨fun pins s σ H R I h => ?_⟩
  refine wpAny_Call_Name_kw (ld_blt I hg hm boot_enumerate ?_)
  refine PySem.W.callWith_of (P := fun _ => True) hpl (fun h _ => ⟨.machine, .inr (.inl rfl), PySem.W.Looks.of_pure rfl⟩) (evalArgs_kw2 (by rfl)
    (thn (ha.run pos pins s σ H _ I h) fun us s1 ⟨vs, H1, I1, r1, q1⟩ => thn (hk.run pos pins s1 σ H1 _ I1 q1) fun ws s2 ⟨zs, H2, I2, r2, q2⟩ => ⟨True.intro, ?_⟩) hs)
  obtain ⟨a, xs, k, ex, ez, hq, b1, b2, q⟩ := q2
  subst ex ez
  obtain ⟨u, eu, ru⟩ := vals1 r1
  obtain ⟨z, ez, rz⟩ := vals1 r2
  subst eu ez
  cases ru
  obtain ⟨t, et⟩ := (show ∃ t, z = Value.int k t from rz)
  subst et
  obtain ⟨its, rv, pl, hz⟩ := I2.list hq
  show wpAny _ _ (call (.type "enumerate") [.ref a] [(Str.ofString "start", .int k t)]) _ _ _
  refine enum_begins_start (begins_list a its.toArray) pl.isList b1 b2 fun h' hen hit hsz hkp => wpAny_pyIter_enum hen ?_
  have I3 : Inv X pins σ H2 { s2 with heap := h' } := I2.kept (t' := s2.toks) hkp
  refine ⟨s2.heap.objs.size + 1, [s2.heap.objs.size + 1, s2.heap.objs.size], _, _, H2, rfl, I3, turn_enumS a (s2.heap.objs.size + 1) s2.heap.objs.size k,
    ⟨⟨.none, ?_⟩, ⟨_, hit, rfl, rfl⟩, Nat.succ_ne_self _⟩, fun b hb => ?_, q⟩
  · show IsEnum h' _ _ (k + 0) _
    rw [Int.add_zero]
    exact hen
  · have two : b = s2.heap.objs.size + 1 ∨ b = s2.heap.objs.size := by simpa using hb
    have hle : s2.heap.objs.size ≤ b := by
      rcases two with z | z
      · rw [z]; exact Nat.le_add_right _ 1
      · rw [z]; exact Nat.le_refl _
    exact I2.fpOk hle (I2.hok.fresh hle)
theorem walk_enumS {K : PySem.W.Frag} {a : Addr} {k : Int} {xs : List V} :
    Walk (IteS K a k) xs.length (fun H => SqL K H a xs) (fun i H v H' => ∃ T x, v = .ref T ∧ H T = none ∧ H' = upd H T (.tup [.int (k + (i : Nat)), x]) ∧ xs[i]? = some x) :=
  ⟨fun i H hi q => ⟨xs, xs[i], q, List.getElem?_eq_getElem hi⟩, fun H q => ⟨xs, q, Nat.le_refl _⟩, fun i H v H' hi q ⟨T, x, e1, e2, e3, e4⟩ => ⟨T, x, e1, e2, e3, e4 xs q⟩⟩
theorem same_mk {H H' : Hp} {x dx : Addr} {o u : HO} (hx : H x = none) (hd : H dx = none) (s : ∀ b v, b ≠ x → (upd (upd H dx o) x u) b = some v → H' b = some v) : Same H H' := fun b v e => by
  have n1 : b ≠ x := ne_of_none e hx
  exact s b v n1 (by rw [upd_ne n1, upd_ne (ne_of_none e hd)]; exact e)
end DP
namespace DP
open PySem PySem.Spec PyProof.Rows L2
structure ClsAt (K : PySem.W.Frag) (mg : Str → Option Value) (x : Str) (C : Addr) : Prop where
  cl : Cls K C
  mkC : PySem.W.makesIn K C = true
  kp : PySem.W.keepIn K (.ref C) = true
  gC : mg x = some (.ref C)
structure MAt (K : PySem.W.Frag) (C : Addr) (m qual : Str) (st : Stmt) (ps : List Str) : Prop where
  ex : ∃ f fd, Fun K m qual st f fd ∧ Meth K C m f ∧ Binds K fd ps []
structure MDef (P : Program) (w : World) (K : PySem.W.Frag) (mg : Str → Option Value) (base : Heap) (CX : CXT) (k : Nat) (C : Addr) (m : Str) (ps : List Str) (ds : List V) (sp : Sp) : Prop where
  ex : ∃ f fd us, FnOk P w K mg base CX k f fd ps sp ∧ Meth K C m f ∧ Binds K fd ps us ∧ Vals ds us
section
variable {X : Cx} {CX : CXT} {k : Nat} {C : Addr} {x m : Str} {ps : List Str} {ds : List V} {sp : Sp} {E : XK} {o e : Expr} {es : List Expr} {ta : TE} {t : TA} {p pos apos : Pos} {pl : Sem Bool}
theorem pe_m (D : MDef X.prog X.w X.K X.mg X.base CX k C m ps ds sp) (c : Cls X.K C) (hr : Room k X.A) (hx : Passes CX X E) (he : PE X o ta) (ha : PA X (e :: es) t)
    (hst : starEach (e :: es) X.env = (false, eval e X.env) :: starEach es X.env := by rfl) (hpl : (backTo pos (starEach es X.env)).any (·.1) = false := by rfl)
    (ht : eval (.Call (.Attribute o m apos) (e :: es) [] pos) X.env = (do
      let ov ← eval o X.env
      standAt apos.atName
      let (f, first) ← holding [ov] (getMethod ov m pl)
      callWith pos f first (backTo pos (starEach (e :: es) X.env)) (backToKw pos (keywordEach [] X.env))) := by rfl) :
    PE X (.Call (.Attribute o m apos) (e :: es) [] pos) (tMeth C m sp ds E ta t) := by
  obtain ⟨f, fd, us, G, M, b, v⟩ := D.ex
  exact pe_meth (pl := pl) he c M G hr b v hx ha hst hpl ht
theorem pe_m0 (D : MDef X.prog X.w X.K X.mg X.base CX k C m ps ds sp) (c : Cls X.K C) (hr : Room k X.A) (hx : Passes CX X E) (he : PE X o ta)
    (ht : eval (.Call (.Attribute o m apos) [] [] pos) X.env = (do
      let ov ← eval o X.env
      standAt apos.atName
      let (f, first) ← holding [ov] (getMethod ov m pl)
      callWith pos f first (backTo pos (starEach [] X.env)) (backToKw pos (keywordEach [] X.env))) := by rfl) :
    PE X (.Call (.Attribute o m apos) [] [] pos) (tMeth C m sp ds E ta tNil) := by
  obtain ⟨f, fd, us, G, M, b, v⟩ := D.ex
  exact pe_meth0 (pl := pl) he c M G hr b v hx ht
theorem pe_mk (D : MDef X.prog X.w X.K X.mg X.base CX k C "__init__" ps ds sp) (c : ClsAt X.K X.mg x C) (hr : Room (k + 1) X.A) (hx : Passes CX X E) (ha : PA X (e :: es) t) (hg : Gl X x := by rfl)
    (hdb : (x == ("__debug__" : Str)) = false := by decide) (he : starEach (e :: es) X.env = (false, eval e X.env) :: starEach es X.env := by rfl) (hpl : (backTo pos (starEach es X.env)).any (·.1) = false := by rfl) :
    PE X (.Call (.Name x p) (e :: es) [] pos) (tMake C sp ds E t) := by
  obtain ⟨f, fd, us, G, M, b, v⟩ := D.ex
  exact pe_make ⟨c.mkC, M.at_, M.fn, c.kp⟩ G hr hg c.gC b v hx ha hdb he hpl
/-- a constant of the module -/
theorem pe_gi {i : Int} (h : ∃ t, X.mg x = some (.int i t)) (hg : Gl X x := by rfl) (hd : (x == ("__debug__" : Str)) = false := by decide) : PE X (.Name x pos) (tC (.int i)) := by
  obtain ⟨t, h⟩ := h
  exact pe_glob hg h ⟨t, rfl⟩ hd
theorem pe_gs {z : Str} (h : ∃ t, X.mg x = some (.str z t)) (hg : Gl X x := by rfl) (hd : (x == ("__debug__" : Str)) = false := by decide) : PE X (.Name x pos) (tC (.str z)) := by
  obtain ⟨t, h⟩ := h
  exact pe_glob hg h ⟨t, rfl⟩ hd
theorem pe_ga {a : Addr} (h : X.mg x = some (.ref a)) (hg : Gl X x := by rfl) (hd : (x == ("__debug__" : Str)) = false := by decide) : PE X (.Name x pos) (tC (.ref a)) := pe_glob hg h rfl hd
end
/-- a method with one default -/
structure MAtD (K : PySem.W.Frag) (C : Addr) (m qual : Str) (st : Stmt) (ps : List Str) (ds : List V) : Prop where
  ex : ∃ f fd us, FunD K m qual (defArgs st) (defBody st) (defScope st) ds [] f fd ∧ Meth K C m f ∧ Binds K fd ps us ∧ Vals ds us
theorem pe_fldK {X : Cx} {K : PySem.W.Frag} (h : X.K = K) {e : Expr} {ta : TE} {f : Str} {pos : Pos} (he : PE X e ta) (hb : attributeBase e f X.env (eval e X.env) = eval e X.env) : PE X (.Attribute e f pos) (tFld K ta f) := by
  subst h
  exact pe_fld he hb
theorem pg_tupK {X : Cx} {K : PySem.W.Frag} (h : X.K = K) {es : List Expr} {k n : Nat} {pos : Pos} {g : TGs} (hc : X.calm = true) (hs : PGs X es g)
    (hn : (assignEach es X.env).length = n := by rfl) (hst : (assignEach es X.env).findIdx? (·.1) = none := by rfl) : PG X (.Tuple es k pos) (gTup K n g) := by
  subst h
  exact pg_tup hc hs hn hst
section
variable {P : Program} {w : World} {K : PySem.W.Frag} {mg : Str → Option Value} {base : Heap} {C : Addr} {m qual : Str} {st : Stmt} {ps N : List Str} {k : Nat} {sp sp' : Sp} {ds : List V}
theorem MAt.ok (F : MAt K C m qual st ps) (S : FnScope N ps (defScope st)) (len : ∀ vs H Q E, sp vs H Q E → vs.length = ps.length)
    (hbody : ∀ (f : Addr) (cdv : Value) (A : Around) (outer : List Env) (s : Shared) (H : Hp) (vs : List V) (Q : VK) (E : XK), Room k (A.deeper (envOfC qual (defScope st) s.heap.objs.size f cdv)) → sp vs H Q E →
      ∃ t, PSs (cxOf CX0 P w K mg base N qual (defScope st) f cdv A outer s H E).nox (defBody st) t ∧ t { nx := fun _ H' => Q .non H', rt := Q } (start N vs) H) : MDef P w K mg base CX0 (k + 1) C m ps [] sp := by
  obtain ⟨f, fd, G, M, b⟩ := F.ex
  exact ⟨f, fd, [], G.ok S len (fun cdv A outer s H vs Q E hr h => hbody f cdv A outer s H vs Q E hr h), M, b, .nil⟩
theorem MAtD.ok (F : MAtD K C m qual st ps ds) (S : FnScope N ps (defScope st)) (len : ∀ vs H Q E, sp vs H Q E → vs.length = ps.length)
    (hbody : ∀ (f : Addr) (cdv : Value) (A : Around) (outer : List Env) (s : Shared) (H : Hp) (vs : List V) (Q : VK) (E : XK), Room k (A.deeper (envOfC qual (defScope st) s.heap.objs.size f cdv)) → sp vs H Q E →
      ∃ t, PSs (cxOf CX0 P w K mg base N qual (defScope st) f cdv A outer s H E).nox (defBody st) t ∧ t { nx := fun _ H' => Q .non H', rt := Q } (start N vs) H) : MDef P w K mg base CX0 (k + 1) C m ps ds sp := by
  obtain ⟨f, fd, us, G, M, b, v⟩ := F.ex
  refine ⟨f, fd, us, G.ok S len (fun cdv A outer s H vs Q E hr h => ?_), M, b, v⟩
  obtain ⟨t, h1, h2⟩ := hbody f cdv A outer s H vs Q E hr h
  exact ⟨t, h1.nox, h2⟩
end
theorem lk_hit {a : Str} {b : V} {es : List (Str × V)} : List.lookup a ((a, b) :: es) = some b := by
  unfold List.lookup
  rw [beq_self_eq_true]
theorem lk_miss {a k : Str} {b : V} {es : List (Str × V)} (h : (a == k) = false) : List.lookup a ((k, b) :: es) = List.lookup a es := by
  show (match a == k with | true => some b | false => List.lookup a es) = _
  rw [h]
theorem put_hit {f : Str} {v x : V} {r : List (Str × V)} : putF f v ((f, x) :: r) = (f, v) :: r := by
  show (if f = f then _ else _) = _
  rw [if_pos rfl]
theorem put_miss {f g : Str} {v x : V} {r : List (Str × V)} (h : (g == f) = false) : putF f v ((g, x) :: r) = (g, x) :: putF f v r := by
  have h1 : ¬ g = f := fun z => by
    rw [z, beq_self_eq_true] at h
    cases h
  show (if g = f then _ else _) = _
  rw [if_neg h1]
theorem put_nil {f : Str} {v : V} : putF f v [] = [(f, v)] := rfl
theorem put_lt {f : Str} {v : V} {k m : Nat} : ∀ {fs : List (Str × V)}, fs.length + (k + 1) < m → (putF f v fs).length + k < m
  | [], h => by
    show 1 + k < m
    have : 0 + (k + 1) < m := h
    omega
  | (g, x) :: r, h => by
    rw [List.length_cons] at h
    show (if g = f then (g, v) :: r else (g, x) :: putF f v r).length + k < m
    by_cases c : g = f
    · rw [if_pos c, List.length_cons]
      omega
    · rw [if_neg c, List.length_cons]
      have := put_lt (f := f) (v := v) (k := k + 1) (m := m) (fs := r) (by omega)
      omega
theorem put_lt0 {f : Str} {v : V} {m : Nat} {fs : List (Str × V)} (h : fs.length + 1 < m) : (putF f v fs).length < m := put_lt (k := 0) h
theorem ins_ne {H : Hp} {a b C D dx dy : Addr} {fs gs : List (Str × V)} (h : H a = some (.ins C dx fs)) (h' : H b = some (.ins D dy gs)) (n : fs.length ≠ gs.length) : a ≠ b := fun z => by
  rw [z, h'] at h
  injection h with h
  injection h with h1 h2 h3
  exact n (by rw [h3])
/-- all that stood but a is as it was -/
def SameX (a : Addr) (H H' : Hp) : Prop := ∀ b o, b ≠ a → H b = some o → H' b = some o
theorem SameX.refl (a : Addr) (H : Hp) : SameX a H H := fun _ _ _ h => h
theorem SameX.trans {a : Addr} {H H1 H2 : Hp} (x : SameX a H H1) (y : SameX a H1 H2) : SameX a H H2 := fun b o n h => y b o n (x b o n h)
theorem SameX.of {a : Addr} {H H' : Hp} (s : Same H H') : SameX a H H' := fun b o _ h => s b o h
theorem SameX.upd {a : Addr} {H : Hp} {o : HO} : SameX a H (L2.upd H a o) := fun b u n h => by rw [upd_ne n]; exact h
theorem SameX.at_ {a : Addr} {H H' : Hp} {o : HO} (x : SameX a H H') : SameX a H (L2.upd H' a o) := fun b u n h => by rw [upd_ne n]; exact x b u n h
end DP
namespace DP
open PySem PySem.Spec PyProof.Rows L2
def topS (i : Nat) : Stmt := PySem.Challenge.pw_downpass_k52_rows_hold.main.body.getD i (.Pass ⟨0, 0, 0, 0⟩)
end DP
namespace DP
open PySem PySem.Spec PyProof.Rows L2
abbrev s_lines_of : Stmt := topS 8
theorem sc_lines_of : FnScope ["text", "rows", "last", "number", "row"] ["text"] (defScope s_lines_of) := ⟨rfl, rfl, rfl, by decide +kernel, rfl, by decide +kernel, by decide +kernel⟩
abbrev s_is_name : Stmt := topS 9
theorem sc_is_name : FnScope ["word", "letter"] ["word"] (defScope s_is_name) := ⟨rfl, rfl, rfl, by decide +kernel, rfl, by decide +kernel, by decide +kernel⟩
abbrev s_is_number : Stmt := topS 10
theorem sc_is_number : FnScope ["word", "letter"] ["word"] (defScope s_is_number) := ⟨rfl, rfl, rfl, by decide +kernel, rfl, by decide +kernel, by decide +kernel⟩
abbrev s_Line___init__ : Stmt := inClass (topS 11) 0
theorem sc_Line___init__ : FnScope ["self", "number", "row"] ["self", "number", "row"] (defScope s_Line___init__) := ⟨rfl, rfl, rfl, by decide +kernel, rfl, by decide +kernel, by decide +kernel⟩
abbrev s_Line_has_more : Stmt := inClass (topS 11) 2
theorem sc_Line_has_more : FnScope ["self"] ["self"] (defScope s_Line_has_more) := ⟨rfl, rfl, rfl, by decide +kernel, rfl, by decide +kernel, by decide +kernel⟩
abbrev s_Line_due : Stmt := inClass (topS 11) 3
theorem sc_Line_due : FnScope ["self", "word"] ["self"] (defScope s_Line_due) := ⟨rfl, rfl, rfl, by decide +kernel, rfl, by decide +kernel, by decide +kernel⟩
abbrev s_Line_step : Stmt := inClass (topS 11) 4
theorem sc_Line_step : FnScope ["self"] ["self"] (defScope s_Line_step) := ⟨rfl, rfl, rfl, by decide +kernel, rfl, by decide +kernel, by decide +kernel⟩
abbrev s_Line_read_choice : Stmt := inClass (topS 11) 5
theorem sc_Line_read_choice : FnScope ["self", "choices", "word"] ["self", "choices"] (defScope s_Line_read_choice) := ⟨rfl, rfl, rfl, by decide +kernel, rfl, by decide +kernel, by decide +kernel⟩
abbrev s_Line_read_number : Stmt := inClass (topS 11) 6
theorem sc_Line_read_number : FnScope ["self", "least", "most", "word", "number"] ["self", "least", "most"] (defScope s_Line_read_number) := ⟨rfl, rfl, rfl, by decide +kernel, rfl, by decide +kernel, by decide +kernel⟩
abbrev s_Line_read_field : Stmt := inClass (topS 11) 7
theorem sc_Line_read_field : FnScope ["self", "word", "least", "most"] ["self", "word", "least", "most"] (defScope s_Line_read_field) := ⟨rfl, rfl, rfl, by decide +kernel, rfl, by decide +kernel, by decide +kernel⟩
abbrev s_Line_due_name : Stmt := inClass (topS 11) 8
theorem sc_Line_due_name : FnScope ["self", "word"] ["self"] (defScope s_Line_due_name) := ⟨rfl, rfl, rfl, by decide +kernel, rfl, by decide +kernel, by decide +kernel⟩
abbrev s_Line_read_new_name : Stmt := inClass (topS 11) 9
theorem sc_Line_read_new_name : FnScope ["self", "used", "word"] ["self", "used"] (defScope s_Line_read_new_name) := ⟨rfl, rfl, rfl, by decide +kernel, rfl, by decide +kernel, by decide +kernel⟩
abbrev s_Line_read_known_name : Stmt := inClass (topS 11) 10
theorem sc_Line_read_known_name : FnScope ["self", "names", "least", "word", "number"] ["self", "names", "least"] (defScope s_Line_read_known_name) := ⟨rfl, rfl, rfl, by decide +kernel, rfl, by decide +kernel, by decide +kernel⟩
abbrev s_Line_finish : Stmt := inClass (topS 11) 11
theorem sc_Line_finish : FnScope ["self"] ["self"] (defScope s_Line_finish) := ⟨rfl, rfl, rfl, by decide +kernel, rfl, by decide +kernel, by decide +kernel⟩
def lnF (n : Int) (wl : Addr) (r : Nat) (c : Int) : List (Str × V) := [("number", .int n), ("words", .ref wl), ("read", .int r), ("column", .int c)]
theorem lnF_words {n : Int} {wl : Addr} {r : Nat} {c : Int} : (lnF n wl r c).lookup ("words" : Str) = some (.ref wl) := by unfold lnF; exact (lk_miss (by decide +kernel)).trans lk_hit
theorem lnF_read {n : Int} {wl : Addr} {r : Nat} {c : Int} : (lnF n wl r c).lookup ("read" : Str) = some (.int r) := by
  unfold lnF; exact (lk_miss (by decide +kernel)).trans ((lk_miss (by decide +kernel)).trans lk_hit)
theorem lnF_column {n : Int} {wl : Addr} {r : Nat} {c : Int} : (lnF n wl r c).lookup ("column" : Str) = some (.int c) := by
  unfold lnF; exact (lk_miss (by decide +kernel)).trans ((lk_miss (by decide +kernel)).trans ((lk_miss (by decide +kernel)).trans lk_hit))
theorem lnF_no {n : Int} {wl : Addr} {r : Nat} {c : Int} {m : Str} (h1 : (m == ("number" : Str)) = false) (h2 : (m == ("words" : Str)) = false) (h3 : (m == ("read" : Str)) = false) (h4 : (m == ("column" : Str)) = false) : (lnF n wl r c).lookup m = none := by
  unfold lnF
  exact (lk_miss h1).trans ((lk_miss h2).trans ((lk_miss h3).trans ((lk_miss h4).trans rfl)))
theorem lnF_put_column {n : Int} {wl : Addr} {r : Nat} {c d : Int} : putF "column" (.int d) (lnF n wl r c) = lnF n wl r d := by
  unfold lnF
  rw [put_miss (by decide +kernel), put_miss (by decide +kernel), put_miss (by decide +kernel), put_hit]
theorem lnF_put_read {n : Int} {wl : Addr} {r q : Nat} {c : Int} : putF "read" (.int q) (lnF n wl r c) = lnF n wl q c := by
  unfold lnF
  rw [put_miss (by decide +kernel), put_miss (by decide +kernel), put_hit]
/-- the line at a, its words ws, r of them passed -/
structure LnAt (C : Addr) (H : Hp) (a : Addr) (ws : List Str) (r : Nat) : Prop where
  ex : ∃ dx n wl c, H a = some (.ins C dx (lnF n wl r c)) ∧ H wl = some (.lst (ws.map V.str))
  ok : ∀ w ∈ ws, WdOk w
theorem LnAt.same {C : Addr} {H H' : Hp} {a : Addr} {ws : List Str} {r : Nat} (h : LnAt C H a ws r) (s : Same H H') : LnAt C H' a ws r := by
  obtain ⟨dx, n, wl, c, h1, h2⟩ := h.ex
  exact ⟨⟨dx, n, wl, c, s _ _ h1, s _ _ h2⟩, h.ok⟩
theorem map_at {ws : List Str} {i : Nat} {w : Str} (h : ws[i]? = some w) : atI (ws.map V.str) (i : Int) = some (.str w) := atI_nat (by rw [List.getElem?_map, h]; rfl)
theorem wd_ne {w : Str} (h : WdOk w) : ¬ w = Str.ofString "" := fun z => h.1 (by rw [z]; decide +kernel)
theorem wd_len {w : Str} (h : WdOk w) : w.length ≤ 16 := by rw [TL.len_tl]; exact h.2.2.2
/-- what the text tells of the class Line and its module -/
structure TxtL (K : PySem.W.Frag) (mg : Str → Option Value) (C : Addr) : Prop where
  B : Bt mg
  c_Line : ClsAt K mg "Line" C
  n_number : NoAttr K C "number"
  n_words : NoAttr K C "words"
  n_read : NoAttr K C "read"
  n_column : NoAttr K C "column"
  g_LETTERS : ∃ t, mg "LETTERS" = some (.str "abcdefghijklmnopqrstuvwxyzABCDEFGHIJKLMNOPQRSTUVWXYZ" t)
  g_DIGITS : ∃ t, mg "DIGITS" = some (.str "0123456789" t)
  g_MOST_NAME : ∃ t, mg "MOST_NAME" = some (.int 15 t)
  g_MOST_DIGITS : ∃ t, mg "MOST_DIGITS" = some (.int 7 t)
section
variable {P : Program} {w : World} {K : PySem.W.Frag} {mg : Str → Option Value} {base : Heap} {C : Addr}
def spLnInit (C : Addr) : Sp := fun vs H Q _ => ∃ (x dx : Addr) (n : Int) (ws : List Str), vs = [.ref x, .int n, .str (row ws)] ∧ H x = some (.ins C dx []) ∧ ws ≠ [] ∧ (∀ w ∈ ws, WdOk w) ∧ ws.length ≤ 2000 ∧
  ∀ H', SameX x H H' → LnAt C H' x ws 0 → Q .non H'
theorem d_Line_init (T : TxtL K mg C) (A : MAt K C "__init__" "Line.__init__" s_Line___init__ ["self", "number", "row"]) : MDef P w K mg base CX0 1 C "__init__" ["self", "number", "row"] [] (spLnInit C) := by
  refine A.ok sc_Line___init__ (fun vs H Q E h => ?_) (fun f cdv A outer s H vs Q E hr h => ?_)
  · obtain ⟨x, dx, n, ws, rfl, _⟩ := h
    rfl
  obtain ⟨x, dx, n, ws, rfl, hx, hn, hok, hlen, q⟩ := h
  refine ⟨_, pss_cons (ps_fld (pv 0) (pv 1) rfl)
  (pss_cons (ps_fld (pv 0) (pe_split (pv 2) pe_str) rfl)
  (pss_cons (ps_fld (pv 0) pe_int rfl)
  (pss_one (ps_fld (pv 0) pe_int rfl))))
    , ?_⟩
  have hl := row_len hok
  refine ⟨_, rfl, _, rfl, x, C, dx, _, rfl, hx, T.c_Line.cl, T.n_number, (by show 0 < 1000; decide), ?_⟩
  refine ⟨_, rfl, ⟨_, rfl⟩, _, sp, rfl, rfl, by decide +kernel, Nat.le_trans (Nat.add_le_add_right (Nat.le_trans hl (Nat.mul_le_mul_right 17 hlen)) 2) (by decide), fun wl hwl => ?_⟩
  have exw : x ≠ wl := fun z => by
    rw [← z, upd_same] at hwl
    cases hwl
  refine ⟨_, rfl, x, C, dx, _, rfl, (upd_ne exw).trans upd_same, T.c_Line.cl, T.n_words, (by repeat (first | refine put_lt0 ?_ | refine put_lt ?_ | (show _ < _; decide))), ?_⟩
  refine ⟨_, rfl, x, C, dx, _, rfl, upd_same, T.c_Line.cl, T.n_read, (by repeat (first | refine put_lt0 ?_ | refine put_lt ?_ | (show _ < _; decide))), ?_⟩
  refine ⟨_, rfl, x, C, dx, _, rfl, upd_same, T.c_Line.cl, T.n_column, (by repeat (first | refine put_lt0 ?_ | refine put_lt ?_ | (show _ < _; decide))), ?_⟩
  have hwl0 : H wl = none := by
    rw [upd_ne exw.symm] at hwl
    exact hwl
  refine q _ (fun b o nb hb => ?_) ⟨⟨dx, n, wl, 1, ?_, ?_⟩, hok⟩
  · rw [upd_ne nb, upd_ne nb, upd_ne nb, upd_ne (ne_of_none hb hwl0), upd_ne nb]
    exact hb
  · rw [upd_same]
    unfold lnF
    repeat (first | rw [put_nil] | rw [put_miss (by decide +kernel)])
    rfl
  · rw [upd_ne exw.symm, upd_ne exw.symm, upd_ne exw.symm, upd_same, row_split hn hok]
def spHasMore (C : Addr) : Sp := fun vs H Q _ => ∃ (a : Addr) (ws : List Str) (r : Nat), vs = [.ref a] ∧ LnAt C H a ws r ∧ Q (.bl (decide (r < ws.length))) H
theorem d_has_more (T : TxtL K mg C) (A : MAt K C "has_more" "Line.has_more" s_Line_has_more ["self"]) : MDef P w K mg base CX0 1 C "has_more" ["self"] [] (spHasMore C) := by
  have B := T.B
  refine A.ok sc_Line_has_more (fun vs H Q E h => ?_) (fun f cdv A outer s H vs Q E hr h => ?_)
  · obtain ⟨a, ws, r, rfl, _⟩ := h
    rfl
  obtain ⟨a, ws, r, rfl, hL, q⟩ := h
  obtain ⟨dx, n, wl, c, h1, h2⟩ := hL.ex
  refine ⟨_, pss_one (ps_ret (pe_cmpR op_lt (pe_fld (pv 0) rfl) (pe_callB (call_len_seq) (by rfl) B.len (by decide +kernel) (pa_cons (pe_fld (pv 0) rfl) pa_nil)) (nomark _)))
    , ?_⟩
  refine ⟨_, rfl, a, C, dx, _, _, rfl, h1, T.c_Line.cl, T.n_read, lnF_read, _, rfl, a, C, dx, _, _, rfl, h1, T.c_Line.cl, T.n_words, lnF_words, wl, _, rfl, .inl (SqL.of h2), _, _, rfl, rfl, ?_⟩
  have e : decide ((r : Int) < (((ws.map V.str).length : Nat) : Int)) = decide (r < ws.length) := by
    rw [List.length_map]
    exact decide_eq_decide.mpr (by omega)
  show Q (.bl (decide ((r : Int) < (((ws.map V.str).length : Nat) : Int)))) H
  rw [e]
  exact q
def spDue (C : Addr) : Sp := fun vs H Q _ => ∃ (a : Addr) (ws : List Str) (r : Nat) (u : Str), vs = [.ref a] ∧ LnAt C H a ws r ∧ ws[r]? = some u ∧ Q (.str u) H
theorem d_due (T : TxtL K mg C) (D_Line_has_more : MDef P w K mg base CX0 1 C "has_more" ["self"] [] (spHasMore C)) (A : MAt K C "due" "Line.due" s_Line_due ["self"]) : MDef P w K mg base CX0 2 C "due" ["self"] [] (spDue C) := by
  have B := T.B
  refine A.ok sc_Line_due (fun vs H Q E h => ?_) (fun f cdv A outer s H vs Q E hr h => ?_)
  · obtain ⟨a, ws, r, u, rfl, _⟩ := h
    rfl
  obtain ⟨a, ws, r, u, rfl, hL, hu, q⟩ := h
  obtain ⟨dx, n, wl, c, h1, h2⟩ := hL.ex
  have hr' : r < ws.length := (List.getElem?_eq_some_iff.mp hu).1
  refine ⟨_, pss_cons (ps_if (pt_not (pt_val (pe_m0 D_Line_has_more T.c_Line.cl (hr.mono (by omega)) pass0 (pv 0))))
      (pss_one (ps_never))
      (pss_nil))
  (pss_cons (ps_set (i := 1) sc_Line_due.nd rfl (Or.inl rfl) (pe_ix ix_list (pe_fld (pv 0) rfl) (pe_fld (pv 0) rfl) (fun _ _ => rfl)))
  (pss_cons (ps_if (pt_cmpR op_eq (pv 1) pe_str (nomark _))
      (pss_one (ps_never))
      (pss_nil))
  (pss_one (ps_ret (pv 1)))))
    , ?_⟩
  refine ⟨_, rfl, a, dx, _, rfl, h1, lnF_no (by decide +kernel) (by decide +kernel) (by decide +kernel) (by decide +kernel), a, ws, r, rfl, hL, _, rfl, iteF' (by rw [decide_eq_true hr']; rfl) ?_⟩
  refine ⟨_, rfl, a, C, dx, _, _, rfl, h1, T.c_Line.cl, T.n_words, lnF_words, _, rfl, a, C, dx, _, _, rfl, h1, T.c_Line.cl, T.n_read, lnF_read, wl, _, _, _, rfl, rfl, SqL.of h2, map_at hu, ?_⟩
  refine ⟨_, rfl, rfl, _, rfl, iteF' (decide_eq_false fun z => wd_ne (hL.ok u (List.mem_of_getElem? hu)) (V.str.inj z)) ?_⟩
  exact ⟨_, rfl, q⟩
def spStep (C : Addr) : Sp := fun vs H Q _ => ∃ (a : Addr) (ws : List Str) (r : Nat), vs = [.ref a] ∧ LnAt C H a ws r ∧ r < ws.length ∧ ∀ H', SameX a H H' → LnAt C H' a ws (r + 1) → Q .non H'
theorem d_step (T : TxtL K mg C) (A : MAt K C "step" "Line.step" s_Line_step ["self"]) : MDef P w K mg base CX0 1 C "step" ["self"] [] (spStep C) := by
  have B := T.B
  refine A.ok sc_Line_step (fun vs H Q E h => ?_) (fun f cdv A outer s H vs Q E hr h => ?_)
  · obtain ⟨a, ws, r, rfl, _⟩ := h
    rfl
  obtain ⟨a, ws, r, rfl, hL, hr', q⟩ := h
  obtain ⟨dx, n, wl, c, h1, h2⟩ := hL.ex
  have hu : ws[r]? = some ws[r] := List.getElem?_eq_getElem hr'
  have ea : wl ≠ a := ne_of h2 h1 (fun z => nomatch z)
  have hw := wd_len (hL.ok _ (List.getElem_mem hr'))
  refine ⟨_, pss_cons (ps_fldaug (pv 0) (pe_op op_add (pe_callB (call_len_str) (by rfl) B.len (by decide +kernel) (pa_cons (pe_ix ix_list (pe_fld (pv 0) rfl) (pe_fld (pv 0) rfl) (fun _ _ => rfl)) pa_nil)) pe_int) in_add)
  (pss_one (ps_fldaug (pv 0) pe_int in_add))
    , ?_⟩
  refine ⟨_, rfl, a, C, dx, _, _, rfl, h1, T.c_Line.cl, T.n_column, lnF_column, _, rfl, a, C, dx, _, _, rfl, h1, T.c_Line.cl, T.n_words, lnF_words, _, rfl, a, C, dx, _, _, rfl, h1, T.c_Line.cl, T.n_read, lnF_read, wl, _, _, _, rfl, rfl, SqL.of h2, map_at hu, ?_⟩
  refine ⟨_, rfl, Nat.le_trans hw (by decide), _, _, rfl, rfl, _, _, rfl, rfl, dx, _, h1, (by show 4 < 1000; decide), ?_⟩
  rw [lnF_put_column]
  refine ⟨_, rfl, a, C, dx, _, _, rfl, upd_same, T.c_Line.cl, T.n_read, lnF_read, _, _, rfl, rfl, dx, _, upd_same, (by show 4 < 1000; decide), ?_⟩
  rw [show ((r : Int) + 1) = ((r + 1 : Nat) : Int) by omega, lnF_put_read, upd_upd]
  exact q _ SameX.upd ⟨⟨dx, n, wl, _, upd_same, by rw [upd_ne ea]; exact h2⟩, hL.ok⟩
def spChoice (K : PySem.W.Frag) (C : Addr) : Sp := fun vs H Q _ => ∃ (a : Addr) (ws : List Str) (r : Nat) (t : Addr) (cs : List Str) (u : Str), vs = [.ref a, .ref t] ∧ LnAt C H a ws r ∧ SqT K H t (cs.map V.str) ∧ ws[r]? = some u ∧ u ∈ cs ∧
  ∀ H', SameX a H H' → LnAt C H' a ws (r + 1) → Q (.str u) H'
theorem inV_str {u : Str} {cs : List Str} : inV (.str u) (cs.map V.str) = decide (u ∈ cs) := by
  unfold inV
  rw [List.any_map]
  induction cs with
  | nil => rfl
  | cons c r ih =>
    rw [List.any_cons, ih]
    show (decide (c = u) || decide (u ∈ r)) = decide (u ∈ c :: r)
    rw [← Bool.decide_or]
    refine decide_eq_decide.mpr ⟨fun z => ?_, fun z => ?_⟩
    · rcases z with z | z
      · rw [z]; exact List.mem_cons_self
      · exact List.mem_cons_of_mem _ z
    · rcases List.mem_cons.mp z with z | z
      · exact .inl z.symm
      · exact .inr z
theorem flat_strs {cs : List Str} : (cs.map V.str).all flatV = true := by
  rw [List.all_map]
  exact List.all_eq_true.mpr fun _ _ => rfl
theorem d_read_choice (T : TxtL K mg C) (D_Line_due : MDef P w K mg base CX0 2 C "due" ["self"] [] (spDue C)) (D_Line_step : MDef P w K mg base CX0 1 C "step" ["self"] [] (spStep C))
    (A : MAt K C "read_choice" "Line.read_choice" s_Line_read_choice ["self", "choices"]) : MDef P w K mg base CX0 3 C "read_choice" ["self", "choices"] [] (spChoice K C) := by
  have B := T.B
  refine A.ok sc_Line_read_choice (fun vs H Q E h => ?_) (fun f cdv A outer s H vs Q E hr h => ?_)
  · obtain ⟨a, ws, r, t, cs, u, rfl, _⟩ := h
    rfl
  obtain ⟨a, ws, r, t, cs, u, rfl, hL, hT, hu, hc, q⟩ := h
  obtain ⟨dx, n, wl, c, h1, h2⟩ := hL.ex
  have hr' : r < ws.length := (List.getElem?_eq_some_iff.mp hu).1
  have no : ∀ {m : Str}, (m == ("number" : Str)) = false → (m == ("words" : Str)) = false → (m == ("read" : Str)) = false → (m == ("column" : Str)) = false → (lnF n wl r c).lookup m = none := fun z1 z2 z3 z4 => lnF_no z1 z2 z3 z4
  refine ⟨_, pss_cons (ps_set (i := 2) sc_Line_read_choice.nd rfl (Or.inl rfl) (pe_m0 D_Line_due T.c_Line.cl (hr.mono (by omega)) pass0 (pv 0)))
  (pss_cons (ps_if (pt_cmpR op_notIn_seq (pv 2) (pv 1) (by rfl))
      (pss_one (ps_never))
      (pss_nil))
  (pss_cons (ps_expr (pe_m0 D_Line_step T.c_Line.cl (hr.mono (by omega)) pass0 (pv 0)))
  (pss_one (ps_ret (pv 2)))))
    , ?_⟩
  refine ⟨_, rfl, a, dx, _, rfl, h1, no (by decide +kernel) (by decide +kernel) (by decide +kernel) (by decide +kernel), a, ws, r, u, rfl, hL, hu, ?_⟩
  refine ⟨_, rfl, _, rfl, t, _, rfl, .inr hT, rfl, flat_strs, _, rfl, iteF' (by rw [inV_str, decide_eq_true hc]; rfl) ?_⟩
  refine ⟨_, rfl, a, dx, _, rfl, h1, no (by decide +kernel) (by decide +kernel) (by decide +kernel) (by decide +kernel), a, ws, r, rfl, hL, hr', fun H' s' L' => ?_⟩
  exact ⟨_, rfl, q H' s' L'⟩
/-- a number's text -/
theorem dig_in {c : Nat} (h : 48 ≤ c ∧ c ≤ 57) : c ∈ ("0123456789" : Str).cps.toList := by
  have all : ∀ d, d < 58 → 48 ≤ d → d ∈ ("0123456789" : Str).cps.toList := by decide +kernel
  exact all c (by omega) h.1
def spIsNum : Sp := fun vs H Q _ => ∃ n : Int, vs = [.str (num n)] ∧ 0 ≤ n ∧ n < 10000000 ∧ ∀ H', Same H H' → Q (.bl true) H'
theorem str1_inj {a b : Nat} (h : (⟨#[a]⟩ : Str) = ⟨#[b]⟩) : a = b := by
  injection h with h
  injection h with h
  injection h
theorem d_is_number (T : TxtL K mg C) (A : At K mg "is_number" s_is_number ["word"]) : DefOk P w K mg base CX0 1 "is_number" ["word"] spIsNum := by
  have B := T.B
  refine A.ok sc_is_number (fun vs H Q E h => ?_) (fun f cdv A outer s H vs Q E hr h => ?_)
  · obtain ⟨n, rfl, _⟩ := h
    rfl
  obtain ⟨n, rfl, h0, h1, q⟩ := h
  refine ⟨_, pss_cons (ps_if (PW.pt (pw_or (pt_cmpR op_gt (pe_callB (call_len_str) (by rfl) B.len (by decide +kernel) (pa_cons (pv 0) pa_nil)) (pe_gi T.g_MOST_DIGITS) (nomark _)) (pw_or1 (PW.pt (pw_and (pt_cmpR op_eq (pe_ix ix_str (pv 0) pe_int (fun _ _ => rfl)) pe_str (nomark _)) (pw_and1 (pt_cmpR op_ne (pv 0) pe_str (nomark _))))))))
      (pss_one (ps_ret pe_bl))
      (pss_nil))
  (pss_one (ps_ret (pe_callB (cr_all rfl) (by rfl) B.all (by decide +kernel) (pa_cons (pe_lc (own := [("letter", 1)])  rfl sc_is_number.nd (pi_str (pv 0)) (blkOk_by (own := [("letter", 1)]) (N := ["word", "letter"]) (sc := defScope s_is_number) (by decide +kernel)) (fun _ _ _ _ _ => pg_name (i := 1) sc_is_number.nd rfl (Or.inl rfl)) (fun _ _ _ _ _ => pts_nil) (fun _ _ _ _ _ => (pe_cmpR op_in_sign (pv 1) (pe_gs T.g_DIGITS) (by rfl)))) pa_nil))))
    , ?_⟩
  have htl := num_nat h0
  have hlen : (num n).length ≤ 7 := by
    rw [TL.len_tl, show TL.tl (num n) = tl (num n) from rfl, htl]
    exact numL_len7 (by omega)
  cases hq : TL.numL n.toNat with
  | nil => exact absurd hq (TL.numL_ne _)
  | cons d ds =>
  have hd : atI (num n).cps.toList 0 = some d := by
    show atI (tl (num n)) 0 = some d
    rw [htl, hq]
    exact atI_nat (j := 0) rfl
  have all : ∀ c ∈ tl (num n), 48 ≤ c ∧ c ≤ 57 := fun c hc => by
    rw [htl] at hc
    exact TL.numL_digits _ c hc
  refine ⟨_, rfl, _, rfl, Nat.le_trans hlen (by decide), _, _, rfl, rfl, _, rfl, iteF' (decide_eq_false (by omega)) ?_⟩
  refine ⟨_, rfl, _, _, d, rfl, rfl, Nat.le_trans hlen (by decide), hd, rfl, _, rfl, ite2 (fun c => ?_) (fun c => ?_)⟩
  · -- a leading 0: it is 0
    have e0 : (⟨#[d]⟩ : Str) = Str.ofString "0" := V.str.inj (of_decide_eq_true c)
    have e1 : (Str.ofString "0" : Str) = ⟨#[48]⟩ := by decide +kernel
    have ed : d = 48 := str1_inj (e0.trans e1)
    have en : n.toNat = 0 := numL_head ds (by rw [hq, ed])
    have en2 : n = 0 := by omega
    subst en2
    refine ⟨_, rfl, rfl, _, rfl, iteF' (by rw [decide_eq_true (show (V.str (num 0) = V.str (Str.ofString "0")) from by decide +kernel)]; rfl) ?_⟩
    refine ⟨_, rfl, _, rfl, fun D hD => lc_it (walk_str) (fun i H' => Same H H' ∧ H' D = some (.lst ((List.replicate i true).map V.bl))) ⟨same_new hD _, upd_same⟩ (fun _ _ _ _ => True.intro) (fun i x H1 H2 hi hI hy => ?_) (fun H1 hI => ?_)⟩
    · obtain ⟨rfl, ch, hch, rfl⟩ := hy
      obtain ⟨hs, hDD⟩ := hI
      have hcm : ch ∈ tl (num 0) := by
        have : (num 0).cps.toList[i]? = some ch := by rw [Array.getElem?_toList]; exact hch
        exact List.mem_of_getElem? this
      refine ⟨rfl, _, rfl, ch, _, rfl, rfl, _, hDD, ?_, same_at hD hs _, ?_⟩
      · rw [List.length_map, List.length_replicate]
        have : (num 0).cps.size ≤ 7 := hlen
        exact small1000 (by omega)
      · rw [upd_same, List.replicate_succ', List.map_append, decide_eq_true (dig_in (all ch hcm))]
        rfl
    · obtain ⟨hs, hDD⟩ := hI
      refine ⟨D, _, rfl, SqL.of hDD, ?_⟩
      rw [show (List.replicate (num 0).cps.size true).all id = true from List.all_eq_true.mpr fun b hb => by rw [List.eq_of_mem_replicate hb]; rfl]
      exact q H1 hs
  · refine iteF ?_
    refine ⟨_, rfl, _, rfl, fun D hD => lc_it (walk_str) (fun i H' => Same H H' ∧ H' D = some (.lst ((List.replicate i true).map V.bl))) ⟨same_new hD _, upd_same⟩ (fun _ _ _ _ => True.intro) (fun i x H1 H2 hi hI hy => ?_) (fun H1 hI => ?_)⟩
    · obtain ⟨rfl, ch, hch, rfl⟩ := hy
      obtain ⟨hs, hDD⟩ := hI
      have hcm : ch ∈ tl (num n) := by
        have : (num n).cps.toList[i]? = some ch := by rw [Array.getElem?_toList]; exact hch
        exact List.mem_of_getElem? this
      refine ⟨rfl, _, rfl, ch, _, rfl, rfl, _, hDD, ?_, same_at hD hs _, ?_⟩
      · rw [List.length_map, List.length_replicate]
        have : (num n).cps.size ≤ 7 := hlen
        exact small1000 (by omega)
      · rw [upd_same, List.replicate_succ', List.map_append, decide_eq_true (dig_in (all ch hcm))]
        rfl
    · obtain ⟨hs, hDD⟩ := hI
      refine ⟨D, _, rfl, SqL.of hDD, ?_⟩
      rw [show (List.replicate (num n).cps.size true).all id = true from List.all_eq_true.mpr fun b hb => by rw [List.eq_of_mem_replicate hb]; rfl]
      exact q H1 hs
def spNumber (C : Addr) : Sp := fun vs H Q _ => ∃ (a : Addr) (ws : List Str) (r : Nat) (lo hi n : Int), vs = [.ref a, .int lo, .int hi] ∧ LnAt C H a ws r ∧ ws[r]? = some (num n) ∧ 0 ≤ n ∧ n < 10000000 ∧ lo ≤ n ∧ n ≤ hi ∧
  ∀ H', SameX a H H' → LnAt C H' a ws (r + 1) → Q (.int n) H'
theorem int_of_num {n : Int} (h0 : 0 ≤ n) (h1 : n < 10000000) : PySem.intText? (num n) = some n ∧ (num n).length ≤ 640 := by
  have e : n = ((n.toNat : Nat) : Int) := by omega
  have hl := numL_len7 (n := n.toNat) (by omega)
  refine ⟨?_, ?_⟩
  · have h := TL.int_num (n := n.toNat) (Nat.le_trans hl (by decide))
    rw [← e] at h
    exact h
  · rw [TL.len_tl, show TL.tl (num n) = tl (num n) from rfl, num_nat h0]
    omega
theorem d_read_number (T : TxtL K mg C) (D_is_number : DefOk P w K mg base CX0 1 "is_number" ["word"] spIsNum) (D_Line_due : MDef P w K mg base CX0 2 C "due" ["self"] [] (spDue C)) (D_Line_step : MDef P w K mg base CX0 1 C "step" ["self"] [] (spStep C))
    (A : MAt K C "read_number" "Line.read_number" s_Line_read_number ["self", "least", "most"]) : MDef P w K mg base CX0 3 C "read_number" ["self", "least", "most"] [] (spNumber C) := by
  have B := T.B
  refine A.ok sc_Line_read_number (fun vs H Q E h => ?_) (fun f cdv A outer s H vs Q E hr h => ?_)
  · obtain ⟨a, ws, r, lo, hi, n, rfl, _⟩ := h
    rfl
  obtain ⟨a, ws, r, lo, hi, n, rfl, hL, hu, h0, hm, hlo, hhi, q⟩ := h
  obtain ⟨dx, nn, wl, c, h1, h2⟩ := hL.ex
  have hr' : r < ws.length := (List.getElem?_eq_some_iff.mp hu).1
  refine ⟨_, pss_cons (ps_set (i := 3) sc_Line_read_number.nd rfl (Or.inl rfl) (pe_m0 D_Line_due T.c_Line.cl (hr.mono (by omega)) pass0 (pv 0)))
  (pss_cons (ps_if (pt_not (pt_val (pe_f D_is_number (hr.mono (by omega)) pass0 (pa_cons (pv 3) pa_nil))))
      (pss_one (ps_never))
      (pss_nil))
  (pss_cons (ps_set (i := 4) sc_Line_read_number.nd rfl (Or.inl rfl) (pe_callTy (call_int_str) (by rfl) B.int (by decide +kernel) (pa_cons (pv 3) pa_nil)))
  (pss_cons (ps_if (PW.pt (pw_or (pt_cmpR op_lt (pv 4) (pv 1) (nomark _)) (pw_or1 (pt_cmpR op_gt (pv 4) (pv 2) (nomark _)))))
      (pss_one (ps_never))
      (pss_nil))
  (pss_cons (ps_expr (pe_m0 D_Line_step T.c_Line.cl (hr.mono (by omega)) pass0 (pv 0)))
  (pss_one (ps_ret (pv 4)))))))
    , ?_⟩
  refine ⟨_, rfl, a, dx, _, rfl, h1, lnF_no (by decide +kernel) (by decide +kernel) (by decide +kernel) (by decide +kernel), a, ws, r, _, rfl, hL, hu, ?_⟩
  refine ⟨_, rfl, n, rfl, h0, hm, fun H1 s1 => ⟨_, rfl, iteF ?_⟩⟩
  obtain ⟨i1, i2⟩ := int_of_num h0 hm
  refine ⟨_, rfl, _, n, rfl, i1, i2, ?_⟩
  refine ⟨_, rfl, _, rfl, _, _, rfl, rfl, _, rfl, iteF' (decide_eq_false (by omega)) ?_⟩
  refine ⟨_, rfl, _, rfl, _, _, rfl, rfl, _, rfl, iteF' (decide_eq_false (by omega)) ?_⟩
  refine ⟨_, rfl, a, dx, _, rfl, s1 _ _ h1, lnF_no (by decide +kernel) (by decide +kernel) (by decide +kernel) (by decide +kernel), a, ws, r, rfl, hL.same s1, hr', fun H' s' L' => ?_⟩
  exact ⟨_, rfl, q H' ((SameX.of s1).trans s') L'⟩
def spField (C : Addr) : Sp := fun vs H Q _ => ∃ (a : Addr) (ws : List Str) (r : Nat) (u : Str) (lo hi n : Int), vs = [.ref a, .str u, .int lo, .int hi] ∧ LnAt C H a ws r ∧ ws[r]? = some u ∧ ws[r + 1]? = some (num n) ∧ 0 ≤ n ∧ n < 10000000 ∧ lo ≤ n ∧ n ≤ hi ∧
  ∀ H', SameX a H H' → LnAt C H' a ws (r + 2) → Q (.int n) H'
theorem d_read_field (T : TxtL K mg C) (D_Line_read_choice : MDef P w K mg base CX0 3 C "read_choice" ["self", "choices"] [] (spChoice K C)) (D_Line_read_number : MDef P w K mg base CX0 3 C "read_number" ["self", "least", "most"] [] (spNumber C))
    (A : MAt K C "read_field" "Line.read_field" s_Line_read_field ["self", "word", "least", "most"]) : MDef P w K mg base CX0 4 C "read_field" ["self", "word", "least", "most"] [] (spField C) := by
  have B := T.B
  refine A.ok sc_Line_read_field (fun vs H Q E h => ?_) (fun f cdv A outer s H vs Q E hr h => ?_)
  · obtain ⟨a, ws, r, u, lo, hi, n, rfl, _⟩ := h
    rfl
  obtain ⟨a, ws, r, u, lo, hi, n, rfl, hL, hu, hn, h0, hm, hlo, hhi, q⟩ := h
  obtain ⟨dx, nn, wl, c, h1, h2⟩ := hL.ex
  refine ⟨_, pss_cons (ps_expr (pe_m D_Line_read_choice T.c_Line.cl (hr.mono (by omega)) pass0 (pv 0) (pa_cons (pe_tup (pa_cons (pv 1) pa_nil)) pa_nil)))
  (pss_one (ps_ret (pe_m D_Line_read_number T.c_Line.cl (hr.mono (by omega)) pass0 (pv 0) (pa_cons (pv 2) (pa_cons (pv 3) pa_nil)))))
    , ?_⟩
  refine ⟨_, rfl, a, dx, _, rfl, h1, lnF_no (by decide +kernel) (by decide +kernel) (by decide +kernel) (by decide +kernel), _, rfl, (by show 1 ≤ sizeLine; decide), fun t ht => ?_⟩
  have s1 : Same H (upd H t (.tup [.str u])) := same_new ht _
  refine ⟨a, ws, r, t, [u], u, rfl, hL.same s1, SqT.of upd_same, hu, List.mem_cons_self, fun H2 s2 L2 => ?_⟩
  obtain ⟨dx2, n2, wl2, c2, g1, g2⟩ := L2.ex
  refine ⟨_, rfl, a, dx2, _, rfl, g1, lnF_no (by decide +kernel) (by decide +kernel) (by decide +kernel) (by decide +kernel), _, rfl, _, rfl, a, ws, r + 1, lo, hi, n, rfl, L2, hn, h0, hm, hlo, hhi, fun H3 s3 L3 => ?_⟩
  exact q H3 (((SameX.of s1).trans s2).trans s3) L3
/-- a name's text -/
theorem let_in {c : Nat} (h : isL c = true) : c ∈ ("abcdefghijklmnopqrstuvwxyzABCDEFGHIJKLMNOPQRSTUVWXYZ" : Str).cps.toList := by
  have all : ∀ d, d < 123 → isL d = true → d ∈ ("abcdefghijklmnopqrstuvwxyzABCDEFGHIJKLMNOPQRSTUVWXYZ" : Str).cps.toList := by decide +kernel
  exact all c (by have := isL_lt h; omega) h
def spIsName : Sp := fun vs H Q _ => ∃ u : Str, vs = [.str u] ∧ NameOk u ∧ ∀ H', Same H H' → Q (.bl true) H'
theorem d_is_name (T : TxtL K mg C) (A : At K mg "is_name" s_is_name ["word"]) : DefOk P w K mg base CX0 1 "is_name" ["word"] spIsName := by
  have B := T.B
  refine A.ok sc_is_name (fun vs H Q E h => ?_) (fun f cdv A outer s H vs Q E hr h => ?_)
  · obtain ⟨u, rfl, _⟩ := h
    rfl
  obtain ⟨u, rfl, hu, q⟩ := h
  refine ⟨_, pss_cons (ps_if (PW.pt (pw_or (pt_cmpR op_gt (pe_callB (call_len_str) (by rfl) B.len (by decide +kernel) (pa_cons (pv 0) pa_nil)) (pe_gi T.g_MOST_NAME) (nomark _)) (pw_or1 (pt_cmpR op_notIn_sign (pe_ix ix_str (pv 0) pe_int (fun _ _ => rfl)) (pe_gs T.g_LETTERS) (by rfl)))))
      (pss_one (ps_ret pe_bl))
      (pss_nil))
  (pss_one (ps_ret (pe_callB (cr_all rfl) (by rfl) B.all (by decide +kernel) (pa_cons (pe_lc (own := [("letter", 1)])  rfl sc_is_name.nd (pi_str (pv 0)) (blkOk_by (own := [("letter", 1)]) (N := ["word", "letter"]) (sc := defScope s_is_name) (by decide +kernel)) (fun _ _ _ _ _ => pg_name (i := 1) sc_is_name.nd rfl (Or.inl rfl)) (fun _ _ _ _ _ => pts_nil) (fun _ _ _ _ _ => (pe_or (pe_cmpR op_in_sign (pv 1) (pe_gs T.g_LETTERS) (by rfl)) (pe_one (pe_cmpR op_in_sign (pv 1) (pe_gs T.g_DIGITS) (by rfl)))))) pa_nil))))
    , ?_⟩
  have signs := hu.signs
  obtain ⟨d, ds, e, hd, _, hl⟩ := hu
  have hlen : u.length ≤ 15 := by
    rw [TL.len_tl, show TL.tl u = tl u from rfl, e, List.length_cons]
    omega
  have hat : atI u.cps.toList 0 = some d := by
    show atI (tl u) 0 = some d
    rw [e]
    exact atI_nat (j := 0) rfl
  refine ⟨_, rfl, _, rfl, Nat.le_trans hlen (by decide), _, _, rfl, rfl, _, rfl, iteF' (decide_eq_false (by omega)) ?_⟩
  refine ⟨_, rfl, _, _, d, rfl, rfl, Nat.le_trans hlen (by decide), hat, d, _, rfl, rfl, _, rfl, iteF' (by rw [decide_eq_true (let_in hd)]; rfl) ?_⟩
  refine ⟨_, rfl, _, rfl, fun D hD => lc_it (walk_str) (fun i H' => Same H H' ∧ H' D = some (.lst ((List.replicate i true).map V.bl))) ⟨same_new hD _, upd_same⟩ (fun _ _ _ _ => True.intro) (fun i x H1 H2 hi hI hy => ?_) (fun H1 hI => ?_)⟩
  · obtain ⟨rfl, ch, hch, rfl⟩ := hy
    obtain ⟨hs, hDD⟩ := hI
    have hcm : ch ∈ tl u := by
      have : u.cps.toList[i]? = some ch := by rw [Array.getElem?_toList]; exact hch
      exact List.mem_of_getElem? this
    have room : ((List.replicate i true).map V.bl).length < sizeLine := by
      rw [List.length_map, List.length_replicate]
      have : u.cps.size ≤ 15 := hlen
      exact small1000 (by omega)
    refine ⟨rfl, _, rfl, ch, _, rfl, rfl, _, rfl, ite2 (fun c => ?_) (fun c => ?_)⟩
    · refine ⟨_, hDD, room, same_at hD hs _, ?_⟩
      rw [upd_same, List.replicate_succ', List.map_append]
      rfl
    · have c' : ¬ ch ∈ ("abcdefghijklmnopqrstuvwxyzABCDEFGHIJKLMNOPQRSTUVWXYZ" : Str).cps.toList := fun z => c (decide_eq_true z)
      have hdg : isD ch = true := by
        rcases Bool.or_eq_true _ _ ▸ (signs ch hcm) with z | z
        · exact absurd (let_in z) c'
        · exact z
      refine ⟨_, rfl, ch, _, rfl, rfl, _, hDD, room, same_at hD hs _, ?_⟩
      rw [upd_same, List.replicate_succ', List.map_append, decide_eq_true (dig_in (isD_lt hdg))]
      rfl
  · obtain ⟨hs, hDD⟩ := hI
    refine ⟨D, _, rfl, SqL.of hDD, ?_⟩
    rw [show (List.replicate u.cps.size true).all id = true from List.all_eq_true.mpr fun b hb => by rw [List.eq_of_mem_replicate hb]; rfl]
    exact q H1 hs
def spDueName (C : Addr) : Sp := fun vs H Q _ => ∃ (a : Addr) (ws : List Str) (r : Nat) (u : Str), vs = [.ref a] ∧ LnAt C H a ws r ∧ ws[r]? = some u ∧ NameOk u ∧ ∀ H', Same H H' → Q (.str u) H'
theorem d_due_name (T : TxtL K mg C) (D_is_name : DefOk P w K mg base CX0 1 "is_name" ["word"] spIsName) (D_Line_due : MDef P w K mg base CX0 2 C "due" ["self"] [] (spDue C))
    (A : MAt K C "due_name" "Line.due_name" s_Line_due_name ["self"]) : MDef P w K mg base CX0 3 C "due_name" ["self"] [] (spDueName C) := by
  have B := T.B
  refine A.ok sc_Line_due_name (fun vs H Q E h => ?_) (fun f cdv A outer s H vs Q E hr h => ?_)
  · obtain ⟨a, ws, r, u, rfl, _⟩ := h
    rfl
  obtain ⟨a, ws, r, u, rfl, hL, hu, hn, q⟩ := h
  obtain ⟨dx, nn, wl, c, h1, h2⟩ := hL.ex
  refine ⟨_, pss_cons (ps_set (i := 1) sc_Line_due_name.nd rfl (Or.inl rfl) (pe_m0 D_Line_due T.c_Line.cl (hr.mono (by omega)) pass0 (pv 0)))
  (pss_cons (ps_if (pt_not (pt_val (pe_f D_is_name (hr.mono (by omega)) pass0 (pa_cons (pv 1) pa_nil))))
      (pss_one (ps_never))
      (pss_nil))
  (pss_one (ps_ret (pv 1))))
    , ?_⟩
  refine ⟨_, rfl, a, dx, _, rfl, h1, lnF_no (by decide +kernel) (by decide +kernel) (by decide +kernel) (by decide +kernel), a, ws, r, _, rfl, hL, hu, ?_⟩
  exact ⟨_, rfl, u, rfl, hn, fun H1 s1 => ⟨_, rfl, iteF ⟨_, rfl, q H1 s1⟩⟩⟩
def spNewName (K : PySem.W.Frag) (C : Addr) : Sp := fun vs H Q _ => ∃ (a : Addr) (ws : List Str) (r : Nat) (p : Addr) (ns : List Str) (u : Str), vs = [.ref a, .ref p] ∧ LnAt C H a ws r ∧ SqL K H p (ns.map V.str) ∧ ws[r]? = some u ∧ NameOk u ∧ u ∉ ns ∧
  ∀ H', SameX a H H' → LnAt C H' a ws (r + 1) → Q (.str u) H'
theorem d_read_new_name (T : TxtL K mg C) (D_Line_due_name : MDef P w K mg base CX0 3 C "due_name" ["self"] [] (spDueName C)) (D_Line_step : MDef P w K mg base CX0 1 C "step" ["self"] [] (spStep C))
    (A : MAt K C "read_new_name" "Line.read_new_name" s_Line_read_new_name ["self", "used"]) : MDef P w K mg base CX0 4 C "read_new_name" ["self", "used"] [] (spNewName K C) := by
  have B := T.B
  refine A.ok sc_Line_read_new_name (fun vs H Q E h => ?_) (fun f cdv A outer s H vs Q E hr h => ?_)
  · obtain ⟨a, ws, r, p, ns, u, rfl, _⟩ := h
    rfl
  obtain ⟨a, ws, r, p, ns, u, rfl, hL, hP, hu, hn, hno, q⟩ := h
  obtain ⟨dx, nn, wl, c, h1, h2⟩ := hL.ex
  have hr' : r < ws.length := (List.getElem?_eq_some_iff.mp hu).1
  refine ⟨_, pss_cons (ps_set (i := 2) sc_Line_read_new_name.nd rfl (Or.inl rfl) (pe_m0 D_Line_due_name T.c_Line.cl (hr.mono (by omega)) pass0 (pv 0)))
  (pss_cons (ps_if (pt_cmpR op_in_seq (pv 2) (pv 1) (by rfl))
      (pss_one (ps_never))
      (pss_nil))
  (pss_cons (ps_expr (pe_m0 D_Line_step T.c_Line.cl (hr.mono (by omega)) pass0 (pv 0)))
  (pss_one (ps_ret (pv 2)))))
    , ?_⟩
  refine ⟨_, rfl, a, dx, _, rfl, h1, lnF_no (by decide +kernel) (by decide +kernel) (by decide +kernel) (by decide +kernel), a, ws, r, _, rfl, hL, hu, hn, fun H1 s1 => ?_⟩
  refine ⟨_, rfl, _, rfl, p, _, rfl, .inl (s1.seq hP), rfl, flat_strs, _, rfl, iteF' (by rw [inV_str, decide_eq_false hno]; rfl) ?_⟩
  refine ⟨_, rfl, a, dx, _, rfl, s1 _ _ h1, lnF_no (by decide +kernel) (by decide +kernel) (by decide +kernel) (by decide +kernel), a, ws, r, rfl, hL.same s1, hr', fun H' s' L' => ?_⟩
  exact ⟨_, rfl, q H' ((SameX.of s1).trans s') L'⟩
/-- the name's first place, and no least one is asked -/
def spKnownName (K : PySem.W.Frag) (C : Addr) : Sp := fun vs H Q _ => ∃ (a : Addr) (ws : List Str) (r : Nat) (p : Addr) (ns : List Str) (u : Str) (j : Nat) (least : Int), vs = [.ref a, .ref p, .int least] ∧ LnAt C H a ws r ∧ SqL K H p (ns.map V.str) ∧ ws[r]? = some u ∧ NameOk u ∧
  ns[j]? = some u ∧ ns.Nodup ∧ least ≤ (j : Int) ∧ ∀ H', SameX a H H' → LnAt C H' a ws (r + 1) → Q (.int (j : Int)) H'
theorem nodup_first {ns : List Str} {u : Str} {j : Nat} (hd : ns.Nodup) (h : ns[j]? = some u) : ∀ (m : Nat) (z : V), m < j → (ns.map V.str)[m]? = some z → eqV z (.str u) = false := fun m z hm hz => by
  rw [List.getElem?_map] at hz
  cases e : ns[m]? with
  | none => rw [e] at hz; cases hz
  | some y =>
    rw [e] at hz
    have ez : V.str y = z := Option.some.inj hz
    rw [← ez]
    show decide (y = u) = false
    refine decide_eq_false fun q => ?_
    obtain ⟨h1, e1⟩ := List.getElem?_eq_some_iff.mp e
    obtain ⟨h2, e2⟩ := List.getElem?_eq_some_iff.mp h
    have := (List.getElem_inj hd).mp (e1.trans (q.trans e2.symm))
    omega
theorem read_known_body {f : Addr} {cdv : Value} {A : Around} {outer : List Env} {s : Shared} {H : Hp} {vs : List V} {Q : VK} {E : XK} (T : TxtL K mg C) (D_Line_due_name : MDef P w K mg base CX0 3 C "due_name" ["self"] [] (spDueName C)) (D_Line_step : MDef P w K mg base CX0 1 C "step" ["self"] [] (spStep C))
    (hr : Room 3 (A.deeper (envOfC "Line.read_known_name" (defScope s_Line_read_known_name) s.heap.objs.size f cdv))) (h : spKnownName K C vs H Q E) :
    ∃ t, PSs (cxOf CX0 P w K mg base ["self", "names", "least", "word", "number"] "Line.read_known_name" (defScope s_Line_read_known_name) f cdv A outer s H E).nox (defBody s_Line_read_known_name) t ∧ t { nx := fun _ H' => Q .non H', rt := Q } (start ["self", "names", "least", "word", "number"] vs) H := by
  have B := T.B
  obtain ⟨a, ws, r, p, ns, u, j, least, rfl, hL, hP, hu, hn, hj, hd, hle, q⟩ := h
  obtain ⟨dx, nn, wl, c, h1, h2⟩ := hL.ex
  have hr' : r < ws.length := (List.getElem?_eq_some_iff.mp hu).1
  have hm : u ∈ ns := List.mem_of_getElem? hj
  refine ⟨_, pss_cons (ps_set (i := 3) sc_Line_read_known_name.nd rfl (Or.inl rfl) (pe_m0 D_Line_due_name T.c_Line.cl (hr.mono (by omega)) pass0 (pv 0)))
  (pss_cons (ps_if (pt_cmpR op_notIn_seq (pv 3) (pv 1) (by rfl))
      (pss_one (ps_never))
      (pss_nil))
  (pss_cons (ps_set (i := 4) sc_Line_read_known_name.nd rfl (Or.inl rfl) (pe_bm PySem.F.plainAttrs_list PySem.F.slot_list_index PySem.F.type_list_index mt_index (pv 1) (pa_cons (pv 3) pa_nil)))
  (pss_cons (ps_if (pt_cmpR op_lt (pv 4) (pv 2) (nomark _))
      (pss_one (ps_never))
      (pss_nil))
  (pss_cons (ps_expr (pe_m0 D_Line_step T.c_Line.cl (hr.mono (by omega)) pass0 (pv 0)))
  (pss_one (ps_ret (pv 4)))))))
    , ?_⟩
  refine ⟨_, rfl, a, dx, _, rfl, h1, lnF_no (by decide +kernel) (by decide +kernel) (by decide +kernel) (by decide +kernel), a, ws, r, _, rfl, hL, hu, hn, fun H1 s1 => ?_⟩
  refine ⟨_, rfl, _, rfl, p, _, rfl, .inl (s1.seq hP), rfl, flat_strs, _, rfl, iteF' (by rw [inV_str, decide_eq_true hm]; rfl) ?_⟩
  refine ⟨_, rfl, .inl ⟨rfl, _, s1.seq hP⟩, _, rfl, p, _, _, j, .str u, rfl, rfl, s1.seq hP, rfl, flat_strs, by rw [List.getElem?_map, hj]; rfl, decide_eq_true rfl, nodup_first hd hj, ?_⟩
  refine ⟨_, rfl, _, rfl, _, _, rfl, rfl, _, rfl, iteF' (decide_eq_false (by omega)) ?_⟩
  refine ⟨_, rfl, a, dx, _, rfl, s1 _ _ h1, lnF_no (by decide +kernel) (by decide +kernel) (by decide +kernel) (by decide +kernel), a, ws, r, rfl, hL.same s1, hr', fun H' s' L' => ?_⟩
  exact ⟨_, rfl, q H' ((SameX.of s1).trans s') L'⟩
theorem d_read_known_name (T : TxtL K mg C) (D_Line_due_name : MDef P w K mg base CX0 3 C "due_name" ["self"] [] (spDueName C)) (D_Line_step : MDef P w K mg base CX0 1 C "step" ["self"] [] (spStep C))
    (A : MAtD K C "read_known_name" "Line.read_known_name" s_Line_read_known_name ["self", "names", "least"] [.int 0]) : MDef P w K mg base CX0 4 C "read_known_name" ["self", "names", "least"] [.int 0] (spKnownName K C) := by
  refine A.ok sc_Line_read_known_name (fun vs H Q E h => ?_) (fun f cdv A outer s H vs Q E hr h => read_known_body T D_Line_due_name D_Line_step hr h)
  obtain ⟨a, ws, r, p, ns, u, j, least, rfl, _⟩ := h
  rfl
def spFinish (C : Addr) : Sp := fun vs H Q _ => ∃ (a : Addr) (ws : List Str), vs = [.ref a] ∧ LnAt C H a ws ws.length ∧ Q .non H
theorem d_finish (T : TxtL K mg C) (D_Line_has_more : MDef P w K mg base CX0 1 C "has_more" ["self"] [] (spHasMore C)) (A : MAt K C "finish" "Line.finish" s_Line_finish ["self"]) : MDef P w K mg base CX0 3 C "finish" ["self"] [] (spFinish C) := by
  have B := T.B
  refine A.ok sc_Line_finish (fun vs H Q E h => ?_) (fun f cdv A outer s H vs Q E hr h => ?_)
  · obtain ⟨a, ws, rfl, _⟩ := h
    rfl
  obtain ⟨a, ws, rfl, hL, q⟩ := h
  obtain ⟨dx, nn, wl, c, h1, h2⟩ := hL.ex
  refine ⟨_, pss_one (ps_if (pt_val (pe_m0 D_Line_has_more T.c_Line.cl (hr.mono (by omega)) pass0 (pv 0)))
      (pss_cons (ps_never)
      (pss_one (ps_never)))
      (pss_nil))
    , ?_⟩
  exact ⟨_, rfl, a, dx, _, rfl, h1, lnF_no (by decide +kernel) (by decide +kernel) (by decide +kernel) (by decide +kernel), a, ws, _, rfl, hL, _, rfl, iteF' (decide_eq_false (Nat.lt_irrefl _)) q⟩
def spLines (C : Addr) : Sp := fun vs H Q _ => ∃ (lns : List (List Str)), vs = [.str (glue (lns.map row))] ∧ (∀ l ∈ lns, l ≠ [] ∧ (∀ x ∈ l, WdOk x) ∧ l.length ≤ 1015) ∧ lns.length ≤ 100 ∧ (glue (lns.map row)).length ≤ 1000000 ∧
  ∀ (p : Addr) (as : List Addr) (H' : Hp), Same H H' → H p = none → (∀ a ∈ as, H a = none) → as.Nodup → H' p = some (.lst (as.map V.ref)) → Paired (fun a l => LnAt C H' a l 0) as lns → Q (.ref p) H'
theorem d_lines_of (T : TxtL K mg C) (DI_Line : MDef P w K mg base CX0 1 C "__init__" ["self", "number", "row"] [] (spLnInit C)) (A : At K mg "lines_of" s_lines_of ["text"]) : DefOk P w K mg base CX0 3 "lines_of" ["text"] (spLines C) := by
  have B := T.B
  refine A.ok sc_lines_of (fun vs H Q E h => ?_) (fun f cdv A outer s H vs Q E hr h => ?_)
  · obtain ⟨lns, rfl, _⟩ := h
    rfl
  obtain ⟨lns, rfl, hl, hn, hz, q⟩ := h
  refine ⟨_, pss_cons (ps_set (i := 1) sc_lines_of.nd rfl (Or.inl rfl) (pe_split (pv 0) pe_str))
  (pss_cons (ps_set (i := 2) sc_lines_of.nd rfl (Or.inl rfl) (pe_bm0 PySem.F.plainAttrs_list PySem.F.slot_list_pop PySem.F.type_list_pop mt_pop (pv 1)))
  (pss_cons (ps_if (pt_cmpR op_ne (pv 2) pe_str (nomark _))
      (pss_one (ps_never))
      (pss_nil))
  (pss_one (ps_ret (pe_lc (own := [("number", 3), ("row", 4)])  rfl sc_lines_of.nd (pi_enumS (by rfl) B.enumerate (pa_cons (pv 1) pa_nil) (pk_cons pe_int pk_nil)) (blkOk_by (own := [("number", 3), ("row", 4)]) (N := ["text", "rows", "last", "number", "row"]) (sc := defScope s_lines_of) (by decide +kernel)) (fun _ _ _ _ _ => pg_tupK (K := K) (n := 2) rfl (by rfl) (pgs_cons (pg_name (i := 3) sc_lines_of.nd rfl (Or.inl rfl)) (pgs_cons (pg_name (i := 4) sc_lines_of.nd rfl (Or.inl rfl)) (pgs_nil)))) (fun _ _ _ _ _ => pts_nil) (fun _ _ _ _ _ => (pe_mk DI_Line T.c_Line (hr.mono (by omega)) pass0 (pa_cons (pv 3) (pa_cons (pv 4) pa_nil)))))))))
    , ?_⟩
  have hsplit : Txt.split (glue (lns.map row)) nl = lns.map row ++ [Str.empty] := glue_split fun r hr => by
    obtain ⟨l, hl', rfl⟩ := List.mem_map.mp hr
    exact row_free (hl l hl').2.1
  refine ⟨_, rfl, ⟨_, rfl⟩, _, nl, rfl, rfl, by decide +kernel, Nat.le_trans (Nat.add_le_add_right hz 2) (by decide), fun rl hrl => ?_⟩
  have e0 : upd H rl (.lst ((Txt.split (glue (lns.map row)) nl).map V.str)) = upd H rl (.lst ((lns.map row).map V.str ++ [.str Str.empty])) := by
    rw [hsplit, List.map_append]
    rfl
  rw [e0]
  refine ⟨_, rfl, .inl ⟨rfl, _, SqL.of upd_same⟩, rl, _, .str Str.empty, rfl, rfl, upd_same, by rw [List.length_append, List.length_singleton, Nat.add_sub_cancel, List.getElem?_append_right (Nat.le_refl _), Nat.sub_self]; rfl, ?_⟩
  rw [upd_upd, List.dropLast_concat]
  refine ⟨_, rfl, rfl, _, rfl, iteF' (by decide +kernel) ?_⟩
  refine ⟨_, rfl, _, _, 1, rfl, rfl, SqL.of upd_same, by decide, by decide, fun D hD => ?_⟩
  have hrlD : rl ≠ D := fun z => by
    rw [← z, upd_same] at hD
    cases hD
  have hD0 : H D = none := by
    rw [upd_ne hrlD.symm] at hD
    exact hD
  have sS : Same H (upd H rl (.lst ((lns.map row).map V.str))) := same_new hrl _
  refine lc_it (walk_enumS (xs := (lns.map row).map V.str)) (fun i H' => ∃ as : List Addr, as.length = i ∧ H' D = some (.lst (as.map V.ref)) ∧ Same (upd H rl (.lst ((lns.map row).map V.str))) H' ∧ (∀ a ∈ as, H a = none) ∧ as.Nodup ∧ Paired (fun a l => LnAt C H' a l 0 ∧ l ≠ []) as (lns.take i))
    ⟨[], rfl, upd_same, same_new hD _, fun _ z => absurd z List.not_mem_nil, List.nodup_nil, .nil⟩ (fun i H1 _ ⟨as, _, _, z, _⟩ => z.seq (SqL.of upd_same)) (fun i x H1 H2 hi hI hy => ?_) (fun H1 hI => ?_)
  · obtain ⟨T', x2, rfl, hT', rfl, hx2⟩ := hy
    obtain ⟨as, ha, hDD, hs, hfr, hnd, hpr⟩ := hI
    have hi' : i < lns.length := by
      rw [List.length_map, List.length_map] at hi
      exact hi
    have ex2 : x2 = .str (row lns[i]) := by
      rw [List.getElem?_map, List.getElem?_map, List.getElem?_eq_getElem hi'] at hx2
      exact (Option.some.inj hx2).symm
    subst ex2
    obtain ⟨k1, k2, k3⟩ := hl _ (List.getElem_mem hi')
    have s12 := same_new hT' (.tup [.int (1 + (i : Int)), .str (row lns[i])])
    refine ⟨T', _, rfl, SqT.of upd_same, rfl, _, _, rfl, _, _, rfl, rfl, rfl, _, rfl, _, rfl, fun x dx hx hdx ne => ?_⟩
    refine ⟨x, dx, _, lns[i], rfl, upd_same, k1, k2, by omega, fun H3 s3 L3 => ⟨rfl, ?_⟩⟩
    have s13 : Same H1 H3 := s12.trans (same_mk hx hdx s3)
    have hxH : H x = none := (sS.trans (hs.trans s12)).free hx
    refine ⟨_, s13 _ _ hDD, by rw [List.length_map, ha]; exact small1000 (by omega), as ++ [x], by rw [List.length_append, ha, List.length_singleton], by rw [upd_same, List.map_append]; rfl, same_at hD (hs.trans s13) _, ?_, ?_, ?_⟩
    · intro a hma
      rcases List.mem_append.mp hma with hma | hma
      · exact hfr a hma
      · rw [List.mem_singleton.mp hma]; exact hxH
    · refine List.nodup_append.mpr ⟨hnd, List.pairwise_singleton _ _, fun a hma b hmb z => ?_⟩
      rw [List.mem_singleton.mp hmb] at z
      subst z
      obtain ⟨j, hj, ej⟩ := List.mem_iff_getElem.mp hma
      obtain ⟨l, _, hla⟩ := paired_at hpr (List.getElem?_eq_getElem hj)
      rw [ej] at hla
      obtain ⟨d1, d2, d3, d4, g1, _⟩ := hla.1.ex
      rw [(s12 _ _ g1)] at hx
      cases hx
    · have upL : ∀ {a : Addr} {l : List Str}, l ≠ [] → LnAt C H3 a l 0 → LnAt C (upd H3 D (.lst (as.map V.ref ++ [.ref x]))) a l 0 := fun {a l} hne h => by
        obtain ⟨d1, d2, d3, d4, g1, g2⟩ := h.ex
        have gD := s13 _ _ hDD
        refine ⟨⟨d1, d2, d3, d4, by rw [upd_ne (ne_of g1 gD (fun z => nomatch z))]; exact g1, ?_⟩, h.ok⟩
        have n2 : d3 ≠ D := fun z => by
          rw [z, gD] at g2
          injection g2 with g2
          injection g2 with g2
          cases l with
          | nil => exact hne rfl
          | cons b bs => cases as with
            | nil => cases g2
            | cons c cs => cases g2
        rw [upd_ne n2]
        exact g2
      rw [List.take_add_one, List.getElem?_eq_getElem hi']
      exact paired_snoc (Paired.mapP hpr fun a l h => ⟨upL h.2 (h.1.same s13), h.2⟩) ⟨upL k1 L3, k1⟩
  · obtain ⟨as, ha, hDD, hs, hfr, hnd, hpr⟩ := hI
    rw [List.length_map, List.length_map, List.take_length] at hpr
    exact q D as H1 (sS.trans hs) hD0 hfr hnd hDD (Paired.mapP hpr fun a l h => h.1)
end
end DP
namespace DP
open PySem PySem.Spec PyProof.Rows L2
abbrev s_names_of : Stmt := topS 34
theorem sc_names_of : FnScope ["things", "thing"] ["things"] (defScope s_names_of) := ⟨rfl, rfl, rfl, by decide +kernel, rfl, by decide +kernel, by decide +kernel⟩
abbrev s_read_light : Stmt := topS 36
theorem sc_read_light : FnScope ["line", "horizon", "light", "least", "first"] ["line", "horizon"] (defScope s_read_light) := ⟨rfl, rfl, rfl, by decide +kernel, rfl, by decide +kernel, by decide +kernel⟩
abbrev s_read_satellite : Stmt := topS 35
theorem sc_read_satellite : FnScope ["line", "horizon", "things", "name", "store", "battery", "level", "reserve", "charge", "settle", "light"] ["line", "horizon", "things"] (defScope s_read_satellite) := ⟨rfl, rfl, rfl, by decide +kernel, rfl, by decide +kernel, by decide +kernel⟩
abbrev s_read_station : Stmt := topS 37
theorem sc_read_station : FnScope ["line", "_", "things", "name", "antennas", "turn"] ["line", "_", "things"] (defScope s_read_station) := ⟨rfl, rfl, rfl, by decide +kernel, rfl, by decide +kernel, by decide +kernel⟩
abbrev s_read_recording : Stmt := topS 38
theorem sc_read_recording : FnScope ["line", "horizon", "things", "name", "satellite", "earliest", "latest", "length", "size", "energy", "worth", "rank", "deadline"] ["line", "horizon", "things"] (defScope s_read_recording) := ⟨rfl, rfl, rfl, by decide +kernel, rfl, by decide +kernel, by decide +kernel⟩
abbrev s_read_pass : Stmt := topS 39
theorem sc_read_pass : FnScope ["line", "horizon", "things", "name", "satellite", "station", "first", "end", "room", "energy", "fee"] ["line", "horizon", "things"] (defScope s_read_pass) := ⟨rfl, rfl, rfl, by decide +kernel, rfl, by decide +kernel, by decide +kernel⟩
abbrev s_most_things : Stmt := topS 44
theorem sc_most_things : FnScope ["sort", "most"] ["sort"] (defScope s_most_things) := ⟨rfl, rfl, rfl, by decide +kernel, rfl, by decide +kernel, by decide +kernel⟩
abbrev s_read_sort : Stmt := topS 43
theorem sc_read_sort : FnScope ["line", "ahead", "things", "word", "sort"] ["line", "ahead", "things"] (defScope s_read_sort) := ⟨rfl, rfl, rfl, by decide +kernel, rfl, by decide +kernel, by decide +kernel⟩
abbrev s_read_things : Stmt := topS 42
theorem sc_read_things : FnScope ["lines", "horizon", "things", "sort", "line", "reader"] ["lines", "horizon"] (defScope s_read_things) := ⟨rfl, rfl, rfl, by decide +kernel, rfl, by decide +kernel, by decide +kernel⟩
abbrev s_Satellite___init__ : Stmt := inClass (topS 28) 0
theorem sc_Satellite___init__ : FnScope ["self", "name", "store", "battery", "start_level", "reserve", "charge", "settle", "light"] ["self", "name", "store", "battery", "start_level", "reserve", "charge", "settle", "light"] (defScope s_Satellite___init__) := ⟨rfl, rfl, rfl, by decide +kernel, rfl, by decide +kernel, by decide +kernel⟩
abbrev s_Station___init__ : Stmt := inClass (topS 29) 0
theorem sc_Station___init__ : FnScope ["self", "name", "antennas", "turn"] ["self", "name", "antennas", "turn"] (defScope s_Station___init__) := ⟨rfl, rfl, rfl, by decide +kernel, rfl, by decide +kernel, by decide +kernel⟩
abbrev s_Recording___init__ : Stmt := inClass (topS 30) 0
theorem sc_Recording___init__ : FnScope ["self", "name", "satellite", "earliest", "latest", "length", "size", "energy", "worth", "rank", "deadline"] ["self", "name", "satellite", "earliest", "latest", "length", "size", "energy", "worth", "rank", "deadline"] (defScope s_Recording___init__) := ⟨rfl, rfl, rfl, by decide +kernel, rfl, by decide +kernel, by decide +kernel⟩
abbrev s_Pass___init__ : Stmt := inClass (topS 31) 0
theorem sc_Pass___init__ : FnScope ["self", "name", "satellite", "station", "span", "room", "energy", "fee"] ["self", "name", "satellite", "station", "span", "room", "energy", "fee"] (defScope s_Pass___init__) := ⟨rfl, rfl, rfl, by decide +kernel, rfl, by decide +kernel, by decide +kernel⟩
abbrev s_World___init__ : Stmt := inClass (topS 32) 6
theorem sc_World___init__ : FnScope ["self", "text", "horizon", "things", "satellites", "stations", "recordings", "passes"] ["self", "text", "horizon", "things"] (defScope s_World___init__) := ⟨rfl, rfl, rfl, by decide +kernel, rfl, by decide +kernel, by decide +kernel⟩
abbrev s_World_parse : Stmt := inClass (topS 32) 7
theorem sc_World_parse : FnScope ["text", "lines", "horizon"] ["text"] (defScope s_World_parse) := ⟨rfl, rfl, rfl, by decide +kernel, rfl, by decide +kernel, by decide +kernel⟩
theorem SameX.new {a L : Addr} {H H' : Hp} {o : HO} (hL : H L = none) (s : SameX a H H') : SameX a H (L2.upd H' L o) := fun b u n h => by
  rw [upd_ne (ne_of_none h hL)]
  exact s b u n h
theorem SameX.sqT {K : PySem.W.Frag} {H H' : Hp} {a t C dx : Addr} {fs : List (Str × V)} {xs : List V} (s : SameX a H H') (ha : H a = some (.ins C dx fs)) (h : SqT K H t xs) : SqT K H' t xs := by
  rcases h with (h | ⟨u, h⟩) | h
  · exact .inl (.inl (s _ _ (ne_of h ha (fun z => nomatch z)) h))
  · exact .inl (.inr ⟨u, s _ _ (ne_of h ha (fun z => nomatch z)) h⟩)
  · exact .inr h
theorem SameX.sqL {K : PySem.W.Frag} {H H' : Hp} {a t C dx : Addr} {fs : List (Str × V)} {xs : List V} (s : SameX a H H') (ha : H a = some (.ins C dx fs)) (h : SqL K H t xs) : SqL K H' t xs := by
  rcases h with (h | ⟨u, h⟩) | h
  · exact .inl (.inl (s _ _ (ne_of h ha (fun z => nomatch z)) h))
  · exact .inl (.inr ⟨u, s _ _ (ne_of h ha (fun z => nomatch z)) h⟩)
  · exact .inr h
theorem SameX.spans {K : PySem.W.Frag} {H H' : Hp} {a C dx : Addr} {fs : List (Str × V)} {xs : List V} {qs : List (Int × Int)} (s : SameX a H H') (ha : H a = some (.ins C dx fs)) (h : Spans K H xs qs) : Spans K H' xs qs :=
  Paired.mapP h fun _ _ ⟨t, h1, h2⟩ => ⟨t, h1, s.sqT ha h2⟩
/-- an object with a name -/
def Named (K : PySem.W.Frag) (H : Hp) (x : V) (nm : Str) : Prop := ∃ a C dx fs, x = .ref a ∧ H a = some (.ins C dx fs) ∧ Cls K C ∧ NoAttr K C "name" ∧ fs.lookup ("name" : Str) = some (.str nm)
theorem Named.same {K : PySem.W.Frag} {H H' : Hp} {x : V} {nm : Str} (h : Named K H x nm) (s : Same H H') : Named K H' x nm := by
  obtain ⟨a, C, dx, fs, h1, h2, h3⟩ := h
  exact ⟨a, C, dx, fs, h1, s _ _ h2, h3⟩
section
variable {P : Program} {w : World} {K : PySem.W.Frag} {mg : Str → Option Value} {base : Heap}
def spNames (K : PySem.W.Frag) : Sp := fun vs H Q _ => ∃ (l : Addr) (xs : List V) (ns : List Str), vs = [.ref l] ∧ SqL K H l xs ∧ Paired (Named K H) xs ns ∧ ns.length ≤ 100 ∧
  ∀ p H', Same H H' → H p = none → H' p = some (.lst (ns.map V.str)) → Q (.ref p) H'
theorem d_names_of (B : Bt mg) (A : At K mg "names_of" s_names_of ["things"]) : DefOk P w K mg base CX0 1 "names_of" ["things"] (spNames K) := by
  refine A.ok sc_names_of (fun vs H Q E h => ?_) (fun f cdv A outer s H vs Q E hr h => ?_)
  · obtain ⟨l, xs, ns, rfl, _⟩ := h
    rfl
  obtain ⟨l, xs, ns, rfl, hl, hp, hn, q⟩ := h
  have hlen := paired_len hp
  refine ⟨_, pss_one (ps_ret (pe_lc (own := [("thing", 1)])  rfl sc_names_of.nd (pi_list (pv 0)) (blkOk_by (own := [("thing", 1)]) (N := ["things", "thing"]) (sc := defScope s_names_of) (by decide +kernel)) (fun _ _ _ _ _ => pg_name (i := 1) sc_names_of.nd rfl (Or.inl rfl)) (fun _ _ _ _ _ => pts_nil) (fun _ _ _ _ _ => (pe_fldK (K := K) rfl (pv 1) rfl))))
    , ?_⟩
  refine ⟨_, rfl, l, rfl, ⟨_, hl⟩, fun D hD => ?_⟩
  refine lc_list (K := K) (a := l) (xs := xs) (fun i H' => Same H H' ∧ H' D = some (.lst ((ns.take i).map V.str))) ⟨same_new hD _, upd_same⟩ (fun i H' _ h => h.1.seq hl) (fun i x H1 hx hI => ?_) (fun H1 hI => ?_)
  · obtain ⟨hs, hDD⟩ := hI
    obtain ⟨nm, hnm, hx2⟩ := paired_at hp hx
    obtain ⟨a, C, dx, fs, rfl, h2, h3, h4, h5⟩ := hx2
    refine ⟨rfl, _, rfl, a, C, dx, fs, _, rfl, hs _ _ h2, h3, h4, h5, _, hDD, ?_, same_at hD hs _, ?_⟩
    · rw [List.length_map, List.length_take]
      exact small1000 (by omega)
    · rw [upd_same, List.take_add_one, hnm, List.map_append]
      rfl
  · obtain ⟨hs, hDD⟩ := hI
    rw [hlen, List.take_length] at hDD
    exact q D H1 hs hD hDD
end
def satF (s : SatD) (t : Addr) : List (Str × V) := [("name", .str s.name), ("store", .int s.store), ("battery", .int s.battery), ("start_level", .int s.level), ("reserve", .int s.reserve), ("charge", .int s.charge), ("settle", .int s.settle), ("light", .ref t)]
def staF (s : StaD) : List (Str × V) := [("name", .str s.name), ("antennas", .int s.antennas), ("turn", .int s.turn)]
def recF (r : RecD) : List (Str × V) := [("name", .str r.name), ("satellite", .int (r.sat : Int)), ("earliest", .int r.earliest), ("latest", .int r.latest), ("length", .int r.length), ("size", .int r.size), ("energy", .int r.energy), ("worth", .int r.worth), ("rank", .int r.rank), ("deadline", .int r.deadline)]
def pasF (p : PasD) (t : Addr) : List (Str × V) := [("name", .str p.name), ("satellite", .int (p.sat : Int)), ("station", .int (p.sta : Int)), ("span", .ref t), ("room", .int p.room), ("energy", .int p.energy), ("fee", .int p.fee)]
def SatAt (K : PySem.W.Frag) (C : Addr) (H : Hp) (x : V) (s : SatD) : Prop := ∃ a dx t ls, x = .ref a ∧ H a = some (.ins C dx (satF s t)) ∧ SqT K H t ls ∧ Spans K H ls s.light
def StaAt (C : Addr) (H : Hp) (x : V) (s : StaD) : Prop := ∃ a dx, x = .ref a ∧ H a = some (.ins C dx (staF s))
def RecAt (C : Addr) (H : Hp) (x : V) (r : RecD) : Prop := ∃ a dx, x = .ref a ∧ H a = some (.ins C dx (recF r))
def PasAt (K : PySem.W.Frag) (C : Addr) (H : Hp) (x : V) (p : PasD) : Prop := ∃ a dx t, x = .ref a ∧ H a = some (.ins C dx (pasF p t)) ∧ SqT K H t [.int p.first, .int p.fin]
/-- a line stays apart from the other objects: their fields are more or fewer -/
theorem SameX.ins {H H' : Hp} {a b C D dx dy : Addr} {fs gs : List (Str × V)} (s : SameX a H H') (ha : H a = some (.ins C dx fs)) (hb : H b = some (.ins D dy gs)) (n : gs.length ≠ fs.length) : H' b = some (.ins D dy gs) := s b _ (ins_ne hb ha n) hb
/-- what the text tells of the other classes -/
structure TxtW (K : PySem.W.Frag) (mg : Str → Option Value) (CL CS CT CR CP CW aS aR fS fT fR fP : Addr) : Prop where
  L : TxtL K mg CL
  c_Satellite : ClsAt K mg "Satellite" CS
  c_Station : ClsAt K mg "Station" CT
  c_Recording : ClsAt K mg "Recording" CR
  c_Pass : ClsAt K mg "Pass" CP
  c_World : ClsAt K mg "World" CW
  n_Satellite_name : NoAttr K CS "name"
  n_Satellite_store : NoAttr K CS "store"
  n_Satellite_battery : NoAttr K CS "battery"
  n_Satellite_start_level : NoAttr K CS "start_level"
  n_Satellite_reserve : NoAttr K CS "reserve"
  n_Satellite_charge : NoAttr K CS "charge"
  n_Satellite_settle : NoAttr K CS "settle"
  n_Satellite_light : NoAttr K CS "light"
  n_Station_name : NoAttr K CT "name"
  n_Station_antennas : NoAttr K CT "antennas"
  n_Station_turn : NoAttr K CT "turn"
  n_Recording_name : NoAttr K CR "name"
  n_Recording_satellite : NoAttr K CR "satellite"
  n_Recording_earliest : NoAttr K CR "earliest"
  n_Recording_latest : NoAttr K CR "latest"
  n_Recording_length : NoAttr K CR "length"
  n_Recording_size : NoAttr K CR "size"
  n_Recording_energy : NoAttr K CR "energy"
  n_Recording_worth : NoAttr K CR "worth"
  n_Recording_rank : NoAttr K CR "rank"
  n_Recording_deadline : NoAttr K CR "deadline"
  n_Pass_name : NoAttr K CP "name"
  n_Pass_satellite : NoAttr K CP "satellite"
  n_Pass_station : NoAttr K CP "station"
  n_Pass_span : NoAttr K CP "span"
  n_Pass_room : NoAttr K CP "room"
  n_Pass_energy : NoAttr K CP "energy"
  n_Pass_fee : NoAttr K CP "fee"
  n_World_text : NoAttr K CW "text"
  n_World_horizon : NoAttr K CW "horizon"
  n_World_satellites : NoAttr K CW "satellites"
  n_World_stations : NoAttr K CW "stations"
  n_World_recordings : NoAttr K CW "recordings"
  n_World_passes : NoAttr K CW "passes"
  g_SATELLITES : ∃ t, mg "SATELLITES" = some (.int 0 t)
  g_STATIONS : ∃ t, mg "STATIONS" = some (.int 1 t)
  g_RECORDINGS : ∃ t, mg "RECORDINGS" = some (.int 2 t)
  g_PASSES : ∃ t, mg "PASSES" = some (.int 3 t)
  g_MOST_UNITS : ∃ t, mg "MOST_UNITS" = some (.int 1000000 t)
  g_MOST_CHARGE : ∃ t, mg "MOST_CHARGE" = some (.int 1000 t)
  g_MOST_DELAY : ∃ t, mg "MOST_DELAY" = some (.int 60 t)
  g_MOST_ANTENNAS : ∃ t, mg "MOST_ANTENNAS" = some (.int 3 t)
  g_MOST_WORTH : ∃ t, mg "MOST_WORTH" = some (.int 1000 t)
  g_MOST_RANK : ∃ t, mg "MOST_RANK" = some (.int 3 t)
  g_MOST_FEE : ∃ t, mg "MOST_FEE" = some (.int 1000 t)
  g_SORTS : mg "SORTS" = some (.ref aS)
  t_SORTS : ∀ H, SqT K H aS (([("satellite" : Str), "station", "recording", "pass"]).map V.str)
  k_SORTS : ∃ o, K.lookup aS = some o ∧ o.cls = .type "tuple" ∧ o.dict = none
  g_READERS : mg "READERS" = some (.ref aR)
  t_READERS : ∀ H, SqT K H aR [.ref fS, .ref fT, .ref fR, .ref fP]
  r_satellite : mg "read_satellite" = some (.ref fS)
  r_station : mg "read_station" = some (.ref fT)
  r_recording : mg "read_recording" = some (.ref fR)
  r_pass : mg "read_pass" = some (.ref fP)
  rdW : ClX.CRead K CW (.type "type")
  v_MOST_HORIZON : ∃ t, ClX.CVal K CW (.type "type") "MOST_HORIZON" (.int 500) (.int 500 t)
  v_MOST_SATELLITES : ∃ t, ClX.CVal K CW (.type "type") "MOST_SATELLITES" (.int 3) (.int 3 t)
  v_MOST_STATIONS : ∃ t, ClX.CVal K CW (.type "type") "MOST_STATIONS" (.int 3) (.int 3 t)
  v_MOST_RECORDINGS : ∃ t, ClX.CVal K CW (.type "type") "MOST_RECORDINGS" (.int 10) (.int 10 t)
  v_MOST_PASSES : ∃ t, ClX.CVal K CW (.type "type") "MOST_PASSES" (.int 10) (.int 10 t)
  v_MOST_SHIFT : ∃ t, ClX.CVal K CW (.type "type") "MOST_SHIFT" (.int 20) (.int 20 t)
section
variable {P : Program} {w : World} {K : PySem.W.Frag} {mg : Str → Option Value} {base : Heap} {CL CS CT CR CP CW aS aR fS fT fR fP : Addr}
theorem TxtW.c_Line (T : TxtW K mg CL CS CT CR CP CW aS aR fS fT fR fP) : ClsAt K mg "Line" CL := T.L.c_Line
def spI_Satellite (C : Addr) : Sp := fun vs H Q _ => ∃ (x dx : Addr) (v0 v1 v2 v3 v4 v5 v6 v7 : V), vs = [.ref x, v0, v1, v2, v3, v4, v5, v6, v7] ∧ H x = some (.ins C dx []) ∧
  Q .non (upd H x (.ins C dx [("name", v0), ("store", v1), ("battery", v2), ("start_level", v3), ("reserve", v4), ("charge", v5), ("settle", v6), ("light", v7)]))
theorem dI_Satellite (T : TxtW K mg CL CS CT CR CP CW aS aR fS fT fR fP) (A : MAt K CS "__init__" "Satellite.__init__" s_Satellite___init__ ["self", "name", "store", "battery", "start_level", "reserve", "charge", "settle", "light"]) : MDef P w K mg base CX0 1 CS "__init__" ["self", "name", "store", "battery", "start_level", "reserve", "charge", "settle", "light"] [] (spI_Satellite CS) := by
  refine A.ok sc_Satellite___init__ (fun vs H Q E h => ?_) (fun f cdv A outer s H vs Q E hr h => ?_)
  · obtain ⟨x, dx, v0, v1, v2, v3, v4, v5, v6, v7, rfl, _⟩ := h
    rfl
  obtain ⟨x, dx, v0, v1, v2, v3, v4, v5, v6, v7, rfl, hx, q⟩ := h
  refine ⟨_, pss_cons (ps_fld (pv 0) (pv 1) rfl)
  (pss_cons (ps_fld (pv 0) (pv 2) rfl)
  (pss_cons (ps_fld (pv 0) (pv 3) rfl)
  (pss_cons (ps_fld (pv 0) (pv 4) rfl)
  (pss_cons (ps_fld (pv 0) (pv 5) rfl)
  (pss_cons (ps_fld (pv 0) (pv 6) rfl)
  (pss_cons (ps_fld (pv 0) (pv 7) rfl)
  (pss_one (ps_fld (pv 0) (pv 8) rfl)))))))), ?_⟩
  refine ⟨_, rfl, _, rfl, x, CS, dx, _, rfl, hx, T.c_Satellite.cl, T.n_Satellite_name, (by show 0 < 1000; decide), ?_⟩
  rw [put_nil]
  refine ⟨_, rfl, _, rfl, x, CS, dx, _, rfl, upd_same, T.c_Satellite.cl, T.n_Satellite_store, (by show 1 < 1000; decide), ?_⟩
  rw [upd_upd]
  rw [put_miss (by decide +kernel)]
  rw [put_nil]
  refine ⟨_, rfl, _, rfl, x, CS, dx, _, rfl, upd_same, T.c_Satellite.cl, T.n_Satellite_battery, (by show 2 < 1000; decide), ?_⟩
  rw [upd_upd]
  rw [put_miss (by decide +kernel)]
  rw [put_miss (by decide +kernel)]
  rw [put_nil]
  refine ⟨_, rfl, _, rfl, x, CS, dx, _, rfl, upd_same, T.c_Satellite.cl, T.n_Satellite_start_level, (by show 3 < 1000; decide), ?_⟩
  rw [upd_upd]
  rw [put_miss (by decide +kernel)]
  rw [put_miss (by decide +kernel)]
  rw [put_miss (by decide +kernel)]
  rw [put_nil]
  refine ⟨_, rfl, _, rfl, x, CS, dx, _, rfl, upd_same, T.c_Satellite.cl, T.n_Satellite_reserve, (by show 4 < 1000; decide), ?_⟩
  rw [upd_upd]
  rw [put_miss (by decide +kernel)]
  rw [put_miss (by decide +kernel)]
  rw [put_miss (by decide +kernel)]
  rw [put_miss (by decide +kernel)]
  rw [put_nil]
  refine ⟨_, rfl, _, rfl, x, CS, dx, _, rfl, upd_same, T.c_Satellite.cl, T.n_Satellite_charge, (by show 5 < 1000; decide), ?_⟩
  rw [upd_upd]
  rw [put_miss (by decide +kernel)]
  rw [put_miss (by decide +kernel)]
  rw [put_miss (by decide +kernel)]
  rw [put_miss (by decide +kernel)]
  rw [put_miss (by decide +kernel)]
  rw [put_nil]
  refine ⟨_, rfl, _, rfl, x, CS, dx, _, rfl, upd_same, T.c_Satellite.cl, T.n_Satellite_settle, (by show 6 < 1000; decide), ?_⟩
  rw [upd_upd]
  rw [put_miss (by decide +kernel)]
  rw [put_miss (by decide +kernel)]
  rw [put_miss (by decide +kernel)]
  rw [put_miss (by decide +kernel)]
  rw [put_miss (by decide +kernel)]
  rw [put_miss (by decide +kernel)]
  rw [put_nil]
  refine ⟨_, rfl, _, rfl, x, CS, dx, _, rfl, upd_same, T.c_Satellite.cl, T.n_Satellite_light, (by show 7 < 1000; decide), ?_⟩
  rw [upd_upd]
  rw [put_miss (by decide +kernel)]
  rw [put_miss (by decide +kernel)]
  rw [put_miss (by decide +kernel)]
  rw [put_miss (by decide +kernel)]
  rw [put_miss (by decide +kernel)]
  rw [put_miss (by decide +kernel)]
  rw [put_miss (by decide +kernel)]
  rw [put_nil]
  exact q
def spI_Station (C : Addr) : Sp := fun vs H Q _ => ∃ (x dx : Addr) (v0 v1 v2 : V), vs = [.ref x, v0, v1, v2] ∧ H x = some (.ins C dx []) ∧
  Q .non (upd H x (.ins C dx [("name", v0), ("antennas", v1), ("turn", v2)]))
theorem dI_Station (T : TxtW K mg CL CS CT CR CP CW aS aR fS fT fR fP) (A : MAt K CT "__init__" "Station.__init__" s_Station___init__ ["self", "name", "antennas", "turn"]) : MDef P w K mg base CX0 1 CT "__init__" ["self", "name", "antennas", "turn"] [] (spI_Station CT) := by
  refine A.ok sc_Station___init__ (fun vs H Q E h => ?_) (fun f cdv A outer s H vs Q E hr h => ?_)
  · obtain ⟨x, dx, v0, v1, v2, rfl, _⟩ := h
    rfl
  obtain ⟨x, dx, v0, v1, v2, rfl, hx, q⟩ := h
  refine ⟨_, pss_cons (ps_fld (pv 0) (pv 1) rfl)
  (pss_cons (ps_fld (pv 0) (pv 2) rfl)
  (pss_one (ps_fld (pv 0) (pv 3) rfl))), ?_⟩
  refine ⟨_, rfl, _, rfl, x, CT, dx, _, rfl, hx, T.c_Station.cl, T.n_Station_name, (by show 0 < 1000; decide), ?_⟩
  rw [put_nil]
  refine ⟨_, rfl, _, rfl, x, CT, dx, _, rfl, upd_same, T.c_Station.cl, T.n_Station_antennas, (by show 1 < 1000; decide), ?_⟩
  rw [upd_upd]
  rw [put_miss (by decide +kernel)]
  rw [put_nil]
  refine ⟨_, rfl, _, rfl, x, CT, dx, _, rfl, upd_same, T.c_Station.cl, T.n_Station_turn, (by show 2 < 1000; decide), ?_⟩
  rw [upd_upd]
  rw [put_miss (by decide +kernel)]
  rw [put_miss (by decide +kernel)]
  rw [put_nil]
  exact q
def spI_Recording (C : Addr) : Sp := fun vs H Q _ => ∃ (x dx : Addr) (v0 v1 v2 v3 v4 v5 v6 v7 v8 v9 : V), vs = [.ref x, v0, v1, v2, v3, v4, v5, v6, v7, v8, v9] ∧ H x = some (.ins C dx []) ∧
  Q .non (upd H x (.ins C dx [("name", v0), ("satellite", v1), ("earliest", v2), ("latest", v3), ("length", v4), ("size", v5), ("energy", v6), ("worth", v7), ("rank", v8), ("deadline", v9)]))
theorem dI_Recording (T : TxtW K mg CL CS CT CR CP CW aS aR fS fT fR fP) (A : MAt K CR "__init__" "Recording.__init__" s_Recording___init__ ["self", "name", "satellite", "earliest", "latest", "length", "size", "energy", "worth", "rank", "deadline"]) : MDef P w K mg base CX0 1 CR "__init__" ["self", "name", "satellite", "earliest", "latest", "length", "size", "energy", "worth", "rank", "deadline"] [] (spI_Recording CR) := by
  refine A.ok sc_Recording___init__ (fun vs H Q E h => ?_) (fun f cdv A outer s H vs Q E hr h => ?_)
  · obtain ⟨x, dx, v0, v1, v2, v3, v4, v5, v6, v7, v8, v9, rfl, _⟩ := h
    rfl
  obtain ⟨x, dx, v0, v1, v2, v3, v4, v5, v6, v7, v8, v9, rfl, hx, q⟩ := h
  refine ⟨_, pss_cons (ps_fld (pv 0) (pv 1) rfl)
  (pss_cons (ps_fld (pv 0) (pv 2) rfl)
  (pss_cons (ps_fld (pv 0) (pv 3) rfl)
  (pss_cons (ps_fld (pv 0) (pv 4) rfl)
  (pss_cons (ps_fld (pv 0) (pv 5) rfl)
  (pss_cons (ps_fld (pv 0) (pv 6) rfl)
  (pss_cons (ps_fld (pv 0) (pv 7) rfl)
  (pss_cons (ps_fld (pv 0) (pv 8) rfl)
  (pss_cons (ps_fld (pv 0) (pv 9) rfl)
  (pss_one (ps_fld (pv 0) (pv 10) rfl)))))))))), ?_⟩
  refine ⟨_, rfl, _, rfl, x, CR, dx, _, rfl, hx, T.c_Recording.cl, T.n_Recording_name, (by show 0 < 1000; decide), ?_⟩
  rw [put_nil]
  refine ⟨_, rfl, _, rfl, x, CR, dx, _, rfl, upd_same, T.c_Recording.cl, T.n_Recording_satellite, (by show 1 < 1000; decide), ?_⟩
  rw [upd_upd]
  rw [put_miss (by decide +kernel)]
  rw [put_nil]
  refine ⟨_, rfl, _, rfl, x, CR, dx, _, rfl, upd_same, T.c_Recording.cl, T.n_Recording_earliest, (by show 2 < 1000; decide), ?_⟩
  rw [upd_upd]
  rw [put_miss (by decide +kernel)]
  rw [put_miss (by decide +kernel)]
  rw [put_nil]
  refine ⟨_, rfl, _, rfl, x, CR, dx, _, rfl, upd_same, T.c_Recording.cl, T.n_Recording_latest, (by show 3 < 1000; decide), ?_⟩
  rw [upd_upd]
  rw [put_miss (by decide +kernel)]
  rw [put_miss (by decide +kernel)]
  rw [put_miss (by decide +kernel)]
  rw [put_nil]
  refine ⟨_, rfl, _, rfl, x, CR, dx, _, rfl, upd_same, T.c_Recording.cl, T.n_Recording_length, (by show 4 < 1000; decide), ?_⟩
  rw [upd_upd]
  rw [put_miss (by decide +kernel)]
  rw [put_miss (by decide +kernel)]
  rw [put_miss (by decide +kernel)]
  rw [put_miss (by decide +kernel)]
  rw [put_nil]
  refine ⟨_, rfl, _, rfl, x, CR, dx, _, rfl, upd_same, T.c_Recording.cl, T.n_Recording_size, (by show 5 < 1000; decide), ?_⟩
  rw [upd_upd]
  rw [put_miss (by decide +kernel)]
  rw [put_miss (by decide +kernel)]
  rw [put_miss (by decide +kernel)]
  rw [put_miss (by decide +kernel)]
  rw [put_miss (by decide +kernel)]
  rw [put_nil]
  refine ⟨_, rfl, _, rfl, x, CR, dx, _, rfl, upd_same, T.c_Recording.cl, T.n_Recording_energy, (by show 6 < 1000; decide), ?_⟩
  rw [upd_upd]
  rw [put_miss (by decide +kernel)]
  rw [put_miss (by decide +kernel)]
  rw [put_miss (by decide +kernel)]
  rw [put_miss (by decide +kernel)]
  rw [put_miss (by decide +kernel)]
  rw [put_miss (by decide +kernel)]
  rw [put_nil]
  refine ⟨_, rfl, _, rfl, x, CR, dx, _, rfl, upd_same, T.c_Recording.cl, T.n_Recording_worth, (by show 7 < 1000; decide), ?_⟩
  rw [upd_upd]
  rw [put_miss (by decide +kernel)]
  rw [put_miss (by decide +kernel)]
  rw [put_miss (by decide +kernel)]
  rw [put_miss (by decide +kernel)]
  rw [put_miss (by decide +kernel)]
  rw [put_miss (by decide +kernel)]
  rw [put_miss (by decide +kernel)]
  rw [put_nil]
  refine ⟨_, rfl, _, rfl, x, CR, dx, _, rfl, upd_same, T.c_Recording.cl, T.n_Recording_rank, (by show 8 < 1000; decide), ?_⟩
  rw [upd_upd]
  rw [put_miss (by decide +kernel)]
  rw [put_miss (by decide +kernel)]
  rw [put_miss (by decide +kernel)]
  rw [put_miss (by decide +kernel)]
  rw [put_miss (by decide +kernel)]
  rw [put_miss (by decide +kernel)]
  rw [put_miss (by decide +kernel)]
  rw [put_miss (by decide +kernel)]
  rw [put_nil]
  refine ⟨_, rfl, _, rfl, x, CR, dx, _, rfl, upd_same, T.c_Recording.cl, T.n_Recording_deadline, (by show 9 < 1000; decide), ?_⟩
  rw [upd_upd]
  rw [put_miss (by decide +kernel)]
  rw [put_miss (by decide +kernel)]
  rw [put_miss (by decide +kernel)]
  rw [put_miss (by decide +kernel)]
  rw [put_miss (by decide +kernel)]
  rw [put_miss (by decide +kernel)]
  rw [put_miss (by decide +kernel)]
  rw [put_miss (by decide +kernel)]
  rw [put_miss (by decide +kernel)]
  rw [put_nil]
  exact q
def spI_Pass (C : Addr) : Sp := fun vs H Q _ => ∃ (x dx : Addr) (v0 v1 v2 v3 v4 v5 v6 : V), vs = [.ref x, v0, v1, v2, v3, v4, v5, v6] ∧ H x = some (.ins C dx []) ∧
  Q .non (upd H x (.ins C dx [("name", v0), ("satellite", v1), ("station", v2), ("span", v3), ("room", v4), ("energy", v5), ("fee", v6)]))
theorem dI_Pass (T : TxtW K mg CL CS CT CR CP CW aS aR fS fT fR fP) (A : MAt K CP "__init__" "Pass.__init__" s_Pass___init__ ["self", "name", "satellite", "station", "span", "room", "energy", "fee"]) : MDef P w K mg base CX0 1 CP "__init__" ["self", "name", "satellite", "station", "span", "room", "energy", "fee"] [] (spI_Pass CP) := by
  refine A.ok sc_Pass___init__ (fun vs H Q E h => ?_) (fun f cdv A outer s H vs Q E hr h => ?_)
  · obtain ⟨x, dx, v0, v1, v2, v3, v4, v5, v6, rfl, _⟩ := h
    rfl
  obtain ⟨x, dx, v0, v1, v2, v3, v4, v5, v6, rfl, hx, q⟩ := h
  refine ⟨_, pss_cons (ps_fld (pv 0) (pv 1) rfl)
  (pss_cons (ps_fld (pv 0) (pv 2) rfl)
  (pss_cons (ps_fld (pv 0) (pv 3) rfl)
  (pss_cons (ps_fld (pv 0) (pv 4) rfl)
  (pss_cons (ps_fld (pv 0) (pv 5) rfl)
  (pss_cons (ps_fld (pv 0) (pv 6) rfl)
  (pss_one (ps_fld (pv 0) (pv 7) rfl))))))), ?_⟩
  refine ⟨_, rfl, _, rfl, x, CP, dx, _, rfl, hx, T.c_Pass.cl, T.n_Pass_name, (by show 0 < 1000; decide), ?_⟩
  rw [put_nil]
  refine ⟨_, rfl, _, rfl, x, CP, dx, _, rfl, upd_same, T.c_Pass.cl, T.n_Pass_satellite, (by show 1 < 1000; decide), ?_⟩
  rw [upd_upd]
  rw [put_miss (by decide +kernel)]
  rw [put_nil]
  refine ⟨_, rfl, _, rfl, x, CP, dx, _, rfl, upd_same, T.c_Pass.cl, T.n_Pass_station, (by show 2 < 1000; decide), ?_⟩
  rw [upd_upd]
  rw [put_miss (by decide +kernel)]
  rw [put_miss (by decide +kernel)]
  rw [put_nil]
  refine ⟨_, rfl, _, rfl, x, CP, dx, _, rfl, upd_same, T.c_Pass.cl, T.n_Pass_span, (by show 3 < 1000; decide), ?_⟩
  rw [upd_upd]
  rw [put_miss (by decide +kernel)]
  rw [put_miss (by decide +kernel)]
  rw [put_miss (by decide +kernel)]
  rw [put_nil]
  refine ⟨_, rfl, _, rfl, x, CP, dx, _, rfl, upd_same, T.c_Pass.cl, T.n_Pass_room, (by show 4 < 1000; decide), ?_⟩
  rw [upd_upd]
  rw [put_miss (by decide +kernel)]
  rw [put_miss (by decide +kernel)]
  rw [put_miss (by decide +kernel)]
  rw [put_miss (by decide +kernel)]
  rw [put_nil]
  refine ⟨_, rfl, _, rfl, x, CP, dx, _, rfl, upd_same, T.c_Pass.cl, T.n_Pass_energy, (by show 5 < 1000; decide), ?_⟩
  rw [upd_upd]
  rw [put_miss (by decide +kernel)]
  rw [put_miss (by decide +kernel)]
  rw [put_miss (by decide +kernel)]
  rw [put_miss (by decide +kernel)]
  rw [put_miss (by decide +kernel)]
  rw [put_nil]
  refine ⟨_, rfl, _, rfl, x, CP, dx, _, rfl, upd_same, T.c_Pass.cl, T.n_Pass_fee, (by show 6 < 1000; decide), ?_⟩
  rw [upd_upd]
  rw [put_miss (by decide +kernel)]
  rw [put_miss (by decide +kernel)]
  rw [put_miss (by decide +kernel)]
  rw [put_miss (by decide +kernel)]
  rw [put_miss (by decide +kernel)]
  rw [put_miss (by decide +kernel)]
  rw [put_nil]
  exact q
def spLight (K : PySem.W.Frag) (CL : Addr) : Sp := fun vs H Q _ => ∃ (a : Addr) (ws : List Str) (r : Nat) (h : Int) (l : List (Int × Int)), vs = [.ref a, .int h] ∧ LnAt CL H a ws r ∧ r ≤ ws.length ∧ ws.drop r = lightW l ∧ LightOk 0 h l ∧ h ≤ 500 ∧ 0 ≤ h ∧
  ∀ t ls H', SameX a H H' → LnAt CL H' a ws ws.length → H' t = some (.tup ls) → Spans K H' ls l → Q (.ref t) H'
theorem drop_head {ws : List Str} {r : Nat} {u : Str} {t : List Str} (h : ws.drop r = u :: t) : ws[r]? = some u ∧ ws.drop (r + 1) = t := by
  have h1 : (ws.drop r)[0]? = some u := by rw [h]; rfl
  rw [List.getElem?_drop, Nat.add_zero] at h1
  refine ⟨h1, ?_⟩
  have h2 : (ws.drop r).drop 1 = t := by rw [h]; rfl
  rw [List.drop_drop] at h2
  exact h2
theorem drop_nil {ws : List Str} {r : Nat} (h : ws.drop r = []) : ws.length ≤ r := List.drop_eq_nil_iff.mp h
theorem d_read_light (T : TxtW K mg CL CS CT CR CP CW aS aR fS fT fR fP) (D_Line_has_more : MDef P w K mg base CX0 1 CL "has_more" ["self"] [] (spHasMore CL)) (D_Line_read_number : MDef P w K mg base CX0 3 CL "read_number" ["self", "least", "most"] [] (spNumber CL))
    (A : At K mg "read_light" s_read_light ["line", "horizon"]) : DefOk P w K mg base CX0 4 "read_light" ["line", "horizon"] (spLight K CL) := by
  have TW := T
  have T := T.L
  have B := T.B
  refine A.ok sc_read_light (fun vs H Q E h => ?_) (fun f cdv A outer s H vs Q E hr h => ?_)
  · obtain ⟨a, ws, r, h, l, rfl, _⟩ := h
    rfl
  obtain ⟨a, ws, r, h, l, rfl, hL, hrl, hd, hok, hh, hh0, q⟩ := h
  refine ⟨_, pss_cons (ps_set (i := 2) sc_read_light.nd rfl (Or.inl rfl) (pe_lst pa_nil))
  (pss_cons (ps_set (i := 3) sc_read_light.nd rfl (Or.inl rfl) pe_int)
  (pss_cons (ps_while PassesOwn.never (pt_val (pe_m0 D_Line_has_more T.c_Line.cl (hr.mono (by omega)) pass0 (pv 0)))
      (pss_cons (ps_set (i := 4) sc_read_light.nd rfl (Or.inl rfl) (pe_m D_Line_read_number T.c_Line.cl (hr.mono (by omega)) pass0 (pv 0) (pa_cons (pv 3) (pa_cons (pe_op op_sub (pv 1) pe_int) pa_nil))))
      (pss_cons (ps_set (i := 3) sc_read_light.nd rfl (Or.inl rfl) (pe_m D_Line_read_number T.c_Line.cl (hr.mono (by omega)) pass0 (pv 0) (pa_cons (pe_op op_add (pv 4) pe_int) (pa_cons (pv 1) pa_nil))))
      (pss_one (ps_expr (pe_bm PySem.F.plainAttrs_list PySem.F.slot_list_append PySem.F.type_list_append mt_append (pv 2) (pa_cons (pe_tup (pa_cons (pv 4) (pa_cons (pv 3) pa_nil))) pa_nil)))))))
  (pss_one (ps_ret (pe_callTy (call_tuple_of) (by rfl) B.tuple (by decide +kernel) (pa_cons (pv 2) pa_nil))))))
    , ?_⟩
  have no : ∀ {H' : Hp} {k : Nat}, LnAt CL H' a ws k → ∀ {m : Str}, (m == ("number" : Str)) = false → (m == ("words" : Str)) = false → (m == ("read" : Str)) = false → (m == ("column" : Str)) = false → ∃ dx fs, H' a = some (.ins CL dx fs) ∧ fs.lookup m = none := fun {H' k} hx {m} z1 z2 z3 z4 => by
    obtain ⟨dx, n, wl, c, h1, h2⟩ := hx.ex
    exact ⟨dx, _, h1, lnF_no z1 z2 z3 z4⟩
  refine ⟨Nat.zero_le _, fun L hLn => ?_⟩
  have eaL : a ≠ L := by
    obtain ⟨dx, n, wl, c, h1, h2⟩ := hL.ex
    exact ne_of_none h1 hLn
  refine ⟨fun n σ H' => ∃ (l1 l2 : List (Int × Int)) (ls : List V) (k : Nat) (le : Int) (y4 : Option V), n = l2.length ∧ l = l1 ++ l2 ∧ ws.drop k = lightW l2 ∧ k ≤ ws.length ∧ LightOk le h l2 ∧ 0 ≤ le ∧ l1.length ≤ 500 ∧ (l1.length : Int) ≤ le ∧
    σ = [some (.ref a), some (.int h), some (.ref L), some (.int le), y4] ∧ H' L = some (.lst ls) ∧ Spans K H' ls l1 ∧ LnAt CL H' a ws k ∧ SameX a H H', ⟨_, [], l, [], r, 0, none, rfl, rfl, hd, hrl, hok, Int.le_refl 0, Nat.zero_le _, Int.le_refl 0, rfl, upd_same, .nil, hL.same (same_new hLn _), SameX.of (same_new hLn _)⟩, fun n σ H' hI => ?_⟩
  obtain ⟨l1, l2, ls, k, le, y4, rfl, rfl, hdk, hk, hok2, hle, h500, hl1, rfl, hLL, hsp, hLk, hsx⟩ := hI
  obtain ⟨dx, fs, g1, g2⟩ := no hLk (m := "has_more") (by decide +kernel) (by decide +kernel) (by decide +kernel) (by decide +kernel)
  refine ⟨_, rfl, a, dx, fs, rfl, g1, g2, a, ws, k, rfl, hLk, _, rfl, ?_⟩
  cases l2 with
  | nil =>
    have hk2 := drop_nil hdk
    rw [decide_eq_false (by omega)]
    refine ⟨_, rfl, L, _, rfl, .inl ⟨SqL.of hLL, fun t ht => ?_⟩⟩
    rw [List.append_nil] at q
    refine q t ls _ (SameX.trans hsx (SameX.of (same_new ht _))) ?_ upd_same (hsp.same (same_new ht _))
    rw [show ws.length = k by omega]
    exact hLk.same (same_new ht _)
  | cons sp l2 =>
    obtain ⟨o1, o2, o3, o4⟩ := hok2
    obtain ⟨u1, hd1⟩ := drop_head (show ws.drop k = num sp.1 :: num sp.2 :: lightW l2 from hdk)
    obtain ⟨u2, hd2⟩ := drop_head hd1
    have k1 : k < ws.length := (List.getElem?_eq_some_iff.mp u1).1
    have k2 : k + 1 < ws.length := (List.getElem?_eq_some_iff.mp u2).1
    rw [decide_eq_true k1]
    refine ⟨fun σ' H'' => ∃ m, m < (sp :: l2).length ∧ ∃ (l1' l2' : List (Int × Int)) (ls : List V) (k : Nat) (le : Int) (y4 : Option V), m = l2'.length ∧ l1 ++ sp :: l2 = l1' ++ l2' ∧ ws.drop k = lightW l2' ∧ k ≤ ws.length ∧ LightOk le h l2' ∧ 0 ≤ le ∧ l1'.length ≤ 500 ∧ (l1'.length : Int) ≤ le ∧
      σ' = [some (.ref a), some (.int h), some (.ref L), some (.int le), y4] ∧ H'' L = some (.lst ls) ∧ Spans K H'' ls l1' ∧ LnAt CL H'' a ws k ∧ SameX a H H'', fun σ' H'' z => z, ?_⟩
    obtain ⟨dx, fs, g1, g2⟩ := no hLk (m := "read_number") (by decide +kernel) (by decide +kernel) (by decide +kernel) (by decide +kernel)
    refine ⟨_, rfl, a, dx, fs, rfl, g1, g2, _, rfl, _, rfl, _, _, rfl, rfl, a, ws, k, le, h - 1, sp.1, rfl, hLk, u1, by omega, by omega, o1, by omega, fun H1 s1 L1 => ?_⟩
    obtain ⟨dx1, fs1, g1', g2'⟩ := no L1 (m := "read_number") (by decide +kernel) (by decide +kernel) (by decide +kernel) (by decide +kernel)
    refine ⟨_, rfl, a, dx1, fs1, rfl, g1', g2', _, rfl, _, _, rfl, rfl, _, rfl, a, ws, k + 1, sp.1 + 1, h, sp.2, rfl, L1, u2, by omega, by omega, o2, o3, fun H2 s2 L2 => ?_⟩
    obtain ⟨dx2, n2, wl2, c2, g12, _⟩ := L2.ex
    have hL2 : H2 L = some (.lst ls) := s2 _ _ eaL.symm (s1 _ _ eaL.symm hLL)
    have hsp2 := s2.spans g1' (s1.spans g1 hsp)
    refine ⟨_, rfl, .inl ⟨rfl, _, SqL.of hL2⟩, _, rfl, _, rfl, (by show 2 ≤ sizeLine; decide), fun t ht => ?_⟩
    have eLt : L ≠ t := ne_of_none hL2 ht
    have hLt : (upd H2 t (.tup [.int sp.1, .int sp.2])) L = some (.lst ls) := by rw [upd_ne eLt]; exact hL2
    have hlsl := paired_len hsp
    refine ⟨L, ls, .ref t, rfl, rfl, hLt, by rw [hlsl]; exact small1000 (by omega), ?_⟩
    refine ⟨l2.length, by rw [List.length_cons]; omega, l1 ++ [sp], l2, ls ++ [.ref t], k + 2, sp.2, _, rfl, by rw [List.append_assoc]; rfl, hd2, by omega, o4, by omega, by rw [List.length_append, List.length_singleton]; omega, by rw [List.length_append, List.length_singleton]; omega, rfl, upd_same, ?_, ?_, ?_⟩
    · exact Spans.upd (paired_snoc (hsp2.same (same_new ht _)) ⟨t, rfl, SqT.of upd_same⟩) hLt
    · have L2t := L2.same (same_new ht (.tup [.int sp.1, .int sp.2]))
      obtain ⟨dx3, n3, wl3, c3, z1, z2⟩ := L2t.ex
      refine ⟨⟨dx3, n3, wl3, c3, by rw [upd_ne eaL]; exact z1, ?_⟩, L2t.ok⟩
      rw [upd_ne]
      · exact z2
      · intro z
        rw [z, hLt] at z2
        have e : ls = ws.map V.str := HO.lst.inj (Option.some.inj z2)
        cases ws with
        | nil => exact absurd k1 (Nat.not_lt_zero _)
        | cons w wr =>
          rw [e] at hsp
          cases hsp with
          | cons y _ =>
            obtain ⟨_, y1, _⟩ := y
            cases y1
    · exact SameX.new hLn (((hsx.trans s1).trans s2).trans (SameX.of (same_new ht _)))
/-- the names of a sort's things -/
def NamesAt (K : PySem.W.Frag) (H : Hp) (th : Addr) (i : Nat) (ns : List Str) : Prop := ∃ (ls : List Addr) (l : Addr) (xs : List V), SqT K H th (ls.map V.ref) ∧ ls[i]? = some l ∧ SqL K H l xs ∧ Paired (Named K H) xs ns ∧ ns.length ≤ 100
theorem NamesAt.same {K : PySem.W.Frag} {H H' : Hp} {th : Addr} {i : Nat} {ns : List Str} (h : NamesAt K H th i ns) (s : Same H H') : NamesAt K H' th i ns := by
  obtain ⟨ls, l, xs, h1, h2, h3, h4, h5⟩ := h
  exact ⟨ls, l, xs, Same.tup s h1, h2, s.seq h3, Paired.mapP h4 fun _ _ z => z.same s, h5⟩
/-- a line is none of the named objects: it has no name -/
theorem SameX.named {K : PySem.W.Frag} {H H' : Hp} {a C dx : Addr} {fs : List (Str × V)} {x : V} {nm : Str} (s : SameX a H H') (ha : H a = some (.ins C dx fs)) (hn : fs.lookup ("name" : Str) = none) (h : Named K H x nm) : Named K H' x nm := by
  obtain ⟨b, D, dy, gs, h1, h2, h3, h4, h5⟩ := h
  refine ⟨b, D, dy, gs, h1, s _ _ (fun z => ?_) h2, h3, h4, h5⟩
  rw [z, ha] at h2
  injection h2 with h2
  injection h2 with z1 z2 z3
  rw [← z3, hn] at h5
  cases h5
theorem NamesAt.sameX {K : PySem.W.Frag} {CL : Addr} {H H' : Hp} {a : Addr} {ws : List Str} {r : Nat} {th : Addr} {i : Nat} {ns : List Str} (h : NamesAt K H th i ns) (hL : LnAt CL H a ws r) (s : SameX a H H') : NamesAt K H' th i ns := by
  obtain ⟨ls, l, xs, h1, h2, h3, h4, h5⟩ := h
  obtain ⟨dx, n, wl, c, g1, g2⟩ := hL.ex
  exact ⟨ls, l, xs, s.sqT g1 h1, h2, s.sqL g1 h3, Paired.mapP h4 fun _ _ z => s.named g1 (lnF_no (by decide +kernel) (by decide +kernel) (by decide +kernel) (by decide +kernel)) z, h5⟩
theorem le_min2 {n i j : Int} (h1 : n ≤ i) (h2 : n ≤ j) : n ≤ (if j < i then j else i) := by split <;> assumption
theorem LnAt.no {C : Addr} {H : Hp} {a : Addr} {ws : List Str} {r : Nat} (h : LnAt C H a ws r) {m : Str} (z1 : (m == ("number" : Str)) = false) (z2 : (m == ("words" : Str)) = false) (z3 : (m == ("read" : Str)) = false) (z4 : (m == ("column" : Str)) = false) :
    ∃ dx fs, H a = some (.ins C dx fs) ∧ fs.lookup m = none := by
  obtain ⟨dx, n, wl, c, h1, h2⟩ := h.ex
  exact ⟨dx, _, h1, lnF_no z1 z2 z3 z4⟩
theorem SameX.free {a x : Addr} {H H' : Hp} {o : HO} (s : SameX a H H') (ha : H' a = some o) (h : H' x = none) : H x = none := by
  cases q : H x with
  | none => rfl
  | some u =>
    by_cases e : x = a
    · rw [e, ha] at h; cases h
    · rw [s x u e q] at h; cases h
theorem LnAt.there {C : Addr} {H : Hp} {a : Addr} {ws : List Str} {r : Nat} (h : LnAt C H a ws r) : ∃ o, H a = some o := by
  obtain ⟨dx, n, wl, c, h1, h2⟩ := h.ex
  exact ⟨_, h1⟩
theorem same_made {H : Hp} {x dx : Addr} {o u v : HO} (hx : H x = none) (hd : H dx = none) : Same H (upd (upd (upd H dx o) x u) x v) := fun b z e => by
  have n1 : b ≠ x := ne_of_none e hx
  rw [upd_ne n1, upd_ne n1, upd_ne (ne_of_none e hd)]
  exact e
def spRdSat (K : PySem.W.Frag) (CL CS : Addr) : Sp := fun vs H Q _ => ∃ (a : Addr) (h : Int) (th : Addr) (s : SatD) (ns : List Str), vs = [.ref a, .int h, .ref th] ∧ LnAt CL H a (wSat s) 1 ∧ NamesAt K H th 0 ns ∧ s.name ∉ ns ∧ SatOk h s ∧ 1 ≤ h ∧ h ≤ 500 ∧
  ∀ b H', H b = none → SameX a H H' → LnAt CL H' a (wSat s) (wSat s).length → SatAt K CS H' (.ref b) s → Q (.ref b) H'
theorem d_read_satellite (T : TxtW K mg CL CS CT CR CP CW aS aR fS fT fR fP) (D_names_of : DefOk P w K mg base CX0 1 "names_of" ["things"] (spNames K)) (D_Line_read_new_name : MDef P w K mg base CX0 4 CL "read_new_name" ["self", "used"] [] (spNewName K CL))
    (D_Line_read_field : MDef P w K mg base CX0 4 CL "read_field" ["self", "word", "least", "most"] [] (spField CL)) (D_Line_read_choice : MDef P w K mg base CX0 3 CL "read_choice" ["self", "choices"] [] (spChoice K CL))
    (D_read_light : DefOk P w K mg base CX0 4 "read_light" ["line", "horizon"] (spLight K CL)) (DI_Satellite : MDef P w K mg base CX0 1 CS "__init__" ["self", "name", "store", "battery", "start_level", "reserve", "charge", "settle", "light"] [] (spI_Satellite CS))
    (A : At K mg "read_satellite" s_read_satellite ["line", "horizon", "things"]) : DefOk P w K mg base CX0 5 "read_satellite" ["line", "horizon", "things"] (spRdSat K CL CS) := by
  have B := T.L.B
  refine A.ok sc_read_satellite (fun vs H Q E h => ?_) (fun f cdv A outer s H vs Q E hr h => ?_)
  · obtain ⟨a, h, th, s, ns, rfl, _⟩ := h
    rfl
  obtain ⟨a, h, th, sd, ns, rfl, hL, hN, hno, ok, hh, hh5, q⟩ := h
  refine ⟨_, pss_cons (ps_set (i := 3) sc_read_satellite.nd rfl (Or.inl rfl) (pe_m D_Line_read_new_name T.c_Line.cl (hr.mono (by omega)) pass0 (pv 0) (pa_cons (pe_f D_names_of (hr.mono (by omega)) pass0 (pa_cons (pe_ix ix_tup (pv 2) (pe_gi T.g_SATELLITES) (fun _ _ => rfl)) pa_nil)) pa_nil)))
  (pss_cons (ps_set (i := 4) sc_read_satellite.nd rfl (Or.inl rfl) (pe_m D_Line_read_field T.c_Line.cl (hr.mono (by omega)) pass0 (pv 0) (pa_cons pe_str (pa_cons pe_int (pa_cons (pe_gi T.g_MOST_UNITS) pa_nil)))))
  (pss_cons (ps_set (i := 5) sc_read_satellite.nd rfl (Or.inl rfl) (pe_m D_Line_read_field T.c_Line.cl (hr.mono (by omega)) pass0 (pv 0) (pa_cons pe_str (pa_cons pe_int (pa_cons (pe_gi T.g_MOST_UNITS) pa_nil)))))
  (C8.pss_cut (ps_set (i := 6) sc_read_satellite.nd rfl (Or.inl rfl) (pe_m D_Line_read_field T.c_Line.cl (hr.mono (by omega)) pass0 (pv 0) (pa_cons pe_str (pa_cons pe_int (pa_cons (pv 5) pa_nil)))))
  (pss_cons (ps_set (i := 7) sc_read_satellite.nd rfl (Or.inl rfl) (pe_m D_Line_read_field T.c_Line.cl (hr.mono (by omega)) pass0 (pv 0) (pa_cons pe_str (pa_cons pe_int (pa_cons (pv 6) pa_nil)))))
  (pss_cons (ps_set (i := 8) sc_read_satellite.nd rfl (Or.inl rfl) (pe_m D_Line_read_field T.c_Line.cl (hr.mono (by omega)) pass0 (pv 0) (pa_cons pe_str (pa_cons pe_int (pa_cons (pe_gi T.g_MOST_CHARGE) pa_nil)))))
  (pss_cons (ps_set (i := 9) sc_read_satellite.nd rfl (Or.inl rfl) (pe_m D_Line_read_field T.c_Line.cl (hr.mono (by omega)) pass0 (pv 0) (pa_cons pe_str (pa_cons pe_int (pa_cons (pe_gi T.g_MOST_DELAY) pa_nil)))))
  (pss_cons (ps_expr (pe_m D_Line_read_choice T.c_Line.cl (hr.mono (by omega)) pass0 (pv 0) (pa_cons (pe_tup (pa_cons pe_str pa_nil)) pa_nil)))
  (pss_cons (ps_set (i := 10) sc_read_satellite.nd rfl (Or.inl rfl) (pe_f D_read_light (hr.mono (by omega)) pass0 (pa_cons (pv 0) (pa_cons (pv 1) pa_nil))))
  (pss_one (ps_ret (pe_mk DI_Satellite T.c_Satellite (hr.mono (by omega)) pass0 (pa_cons (pv 3) (pa_cons (pv 4) (pa_cons (pv 5) (pa_cons (pv 6) (pa_cons (pv 7) (pa_cons (pv 8) (pa_cons (pv 9) (pa_cons (pv 10) pa_nil)))))))))))))))))))
    , ?_⟩
  have b1 := ok.store; have b2 := ok.battery; have b3 := ok.level; have b4 := ok.reserve; have b5 := ok.charge; have b6 := ok.settle
  obtain ⟨ls, l, xs, t1, t2, t3, t4, t5⟩ := hN
  obtain ⟨_, _, g0, z0⟩ := LnAt.no hL (m := "read_new_name") (by decide +kernel) (by decide +kernel) (by decide +kernel) (by decide +kernel)
  refine ⟨_, rfl, a, _, _, rfl, g0, z0, _, rfl, th, _, _, .ref l, rfl, rfl, t1, atI_nat (j := 0) (by rw [List.getElem?_map, t2]; rfl), l, xs, ns, rfl, t3, t4, t5, fun p H1 s1 np hp => ?_⟩
  refine ⟨a, _, 1, p, ns, sd.name, rfl, hL.same s1, SqL.of hp, rfl, ok.name, hno, fun H2 s2 L2 => ?_⟩
  (obtain ⟨_, _, g2, z2⟩ := LnAt.no L2 (m := "read_field") (by decide +kernel) (by decide +kernel) (by decide +kernel) (by decide +kernel); refine ⟨_, rfl, a, _, _, rfl, g2, z2, a, _, 2, _, _, _, sd.store, rfl, L2, rfl, rfl, by omega, by omega, by omega, by omega, fun H3 s3 L3 => ?_⟩)
  (obtain ⟨_, _, g3, z3⟩ := LnAt.no L3 (m := "read_field") (by decide +kernel) (by decide +kernel) (by decide +kernel) (by decide +kernel); refine ⟨_, rfl, a, _, _, rfl, g3, z3, a, _, 4, _, _, _, sd.battery, rfl, L3, rfl, rfl, by omega, by omega, by omega, by omega, fun H4 s4 L4 => ?_⟩)
  refine ⟨fun σ' H' => σ' = [some (.ref a), some (.int h), some (.ref th), some (.str sd.name), some (.int sd.store), some (.int sd.battery), some (.int sd.level), none, none, none, none] ∧ SameX a H H' ∧ LnAt CL H' a (wSat sd) 8, ?_, fun σ' H5 hm => ?_⟩
  · (obtain ⟨_, _, g4, z4⟩ := LnAt.no L4 (m := "read_field") (by decide +kernel) (by decide +kernel) (by decide +kernel) (by decide +kernel); refine ⟨_, rfl, a, _, _, rfl, g4, z4, _, rfl, a, _, 6, _, _, _, sd.level, rfl, L4, rfl, rfl, by omega, by omega, by omega, by omega, fun H5 s5 L5 => ?_⟩)
    exact ⟨rfl, ((((SameX.of s1).trans s2).trans s3).trans s4).trans s5, L5⟩
  obtain ⟨rfl, s05, L5⟩ := hm
  (obtain ⟨_, _, g5, z5⟩ := LnAt.no L5 (m := "read_field") (by decide +kernel) (by decide +kernel) (by decide +kernel) (by decide +kernel); refine ⟨_, rfl, a, _, _, rfl, g5, z5, _, rfl, a, _, 8, _, _, _, sd.reserve, rfl, L5, rfl, rfl, by omega, by omega, by omega, by omega, fun H6 s6 L6 => ?_⟩)
  (obtain ⟨_, _, g6, z6⟩ := LnAt.no L6 (m := "read_field") (by decide +kernel) (by decide +kernel) (by decide +kernel) (by decide +kernel); refine ⟨_, rfl, a, _, _, rfl, g6, z6, a, _, 10, _, _, _, sd.charge, rfl, L6, rfl, rfl, by omega, by omega, by omega, by omega, fun H7 s7 L7 => ?_⟩)
  (obtain ⟨_, _, g7, z7⟩ := LnAt.no L7 (m := "read_field") (by decide +kernel) (by decide +kernel) (by decide +kernel) (by decide +kernel); refine ⟨_, rfl, a, _, _, rfl, g7, z7, a, _, 12, _, _, _, sd.settle, rfl, L7, rfl, rfl, by omega, by omega, by omega, by omega, fun H8 s8 L8 => ?_⟩)
  obtain ⟨_, _, g8, z8⟩ := LnAt.no L8 (m := "read_choice") (by decide +kernel) (by decide +kernel) (by decide +kernel) (by decide +kernel)
  refine ⟨_, rfl, a, _, _, rfl, g8, z8, (by show 1 ≤ sizeLine; decide), fun t ht => ?_⟩
  refine ⟨a, _, 14, t, [Str.ofString "light"], Str.ofString "light", rfl, L8.same (same_new ht _), SqT.of upd_same, rfl, List.mem_cons_self, fun H9 s9 L9 => ?_⟩
  refine ⟨_, rfl, _, rfl, a, _, 15, h, sd.light, rfl, L9, by unfold wSat; rw [List.length_append]; exact Nat.le_add_right 15 _, rfl, ok.light, hh5, by omega, fun t ls' H10 s10 L10 htt hsp => ?_⟩
  refine ⟨_, rfl, _, rfl, _, rfl, _, rfl, _, rfl, _, rfl, _, rfl, _, rfl, fun x dx hx hdx ne => ?_⟩
  refine ⟨x, dx, _, _, _, _, _, _, _, _, rfl, upd_same, rfl, ?_⟩
  have sA : SameX a H H10 := ((((s05.trans s6).trans s7).trans s8).trans (SameX.of (same_new ht _))).trans (s9.trans s10)
  have sB := same_made (o := .own x) (u := .ins CS dx []) (v := .ins CS dx (satF sd t)) hx hdx
  obtain ⟨o, ho⟩ := L10.there
  refine q x _ (sA.free ho hx) (sA.trans (SameX.of sB)) (L10.same sB) ⟨x, dx, t, ls', rfl, upd_same, SqT.of (sB _ _ htt), hsp.same sB⟩
def spRdSta (K : PySem.W.Frag) (CL CT : Addr) : Sp := fun vs H Q _ => ∃ (a : Addr) (h : Int) (th : Addr) (s : StaD) (ns : List Str), vs = [.ref a, .int h, .ref th] ∧ LnAt CL H a (wSta s) 1 ∧ NamesAt K H th 1 ns ∧ s.name ∉ ns ∧ StaOk s ∧
  ∀ b H', H b = none → SameX a H H' → LnAt CL H' a (wSta s) (wSta s).length → StaAt CT H' (.ref b) s → Q (.ref b) H'
theorem d_read_station (T : TxtW K mg CL CS CT CR CP CW aS aR fS fT fR fP) (D_names_of : DefOk P w K mg base CX0 1 "names_of" ["things"] (spNames K)) (D_Line_read_new_name : MDef P w K mg base CX0 4 CL "read_new_name" ["self", "used"] [] (spNewName K CL))
    (D_Line_read_field : MDef P w K mg base CX0 4 CL "read_field" ["self", "word", "least", "most"] [] (spField CL)) (DI_Station : MDef P w K mg base CX0 1 CT "__init__" ["self", "name", "antennas", "turn"] [] (spI_Station CT))
    (A : At K mg "read_station" s_read_station ["line", "_", "things"]) : DefOk P w K mg base CX0 5 "read_station" ["line", "_", "things"] (spRdSta K CL CT) := by
  have B := T.L.B
  refine A.ok sc_read_station (fun vs H Q E h => ?_) (fun f cdv A outer s H vs Q E hr h => ?_)
  · obtain ⟨a, h, th, s, ns, rfl, _⟩ := h
    rfl
  obtain ⟨a, h, th, sd, ns, rfl, hL, hN, hno, ok, q⟩ := h
  refine ⟨_, pss_cons (ps_set (i := 3) sc_read_station.nd rfl (Or.inl rfl) (pe_m D_Line_read_new_name T.c_Line.cl (hr.mono (by omega)) pass0 (pv 0) (pa_cons (pe_f D_names_of (hr.mono (by omega)) pass0 (pa_cons (pe_ix ix_tup (pv 2) (pe_gi T.g_STATIONS) (fun _ _ => rfl)) pa_nil)) pa_nil)))
  (pss_cons (ps_set (i := 4) sc_read_station.nd rfl (Or.inl rfl) (pe_m D_Line_read_field T.c_Line.cl (hr.mono (by omega)) pass0 (pv 0) (pa_cons pe_str (pa_cons pe_int (pa_cons (pe_gi T.g_MOST_ANTENNAS) pa_nil)))))
  (pss_cons (ps_set (i := 5) sc_read_station.nd rfl (Or.inl rfl) (pe_m D_Line_read_field T.c_Line.cl (hr.mono (by omega)) pass0 (pv 0) (pa_cons pe_str (pa_cons pe_int (pa_cons (pe_gi T.g_MOST_DELAY) pa_nil)))))
  (pss_one (ps_ret (pe_mk DI_Station T.c_Station (hr.mono (by omega)) pass0 (pa_cons (pv 3) (pa_cons (pv 4) (pa_cons (pv 5) pa_nil))))))))
    , ?_⟩
  have b1 := ok.antennas; have b2 := ok.turn
  obtain ⟨ls, l, xs, t1, t2, t3, t4, t5⟩ := hN
  obtain ⟨_, _, g0, z0⟩ := LnAt.no hL (m := "read_new_name") (by decide +kernel) (by decide +kernel) (by decide +kernel) (by decide +kernel)
  refine ⟨_, rfl, a, _, _, rfl, g0, z0, _, rfl, th, _, _, .ref l, rfl, rfl, t1, atI_nat (j := 1) (by rw [List.getElem?_map, t2]; rfl), l, xs, ns, rfl, t3, t4, t5, fun p H1 s1 np hp => ?_⟩
  refine ⟨a, _, 1, p, ns, sd.name, rfl, hL.same s1, SqL.of hp, rfl, ok.name, hno, fun H2 s2 L2 => ?_⟩
  (obtain ⟨_, _, g2, z2⟩ := LnAt.no L2 (m := "read_field") (by decide +kernel) (by decide +kernel) (by decide +kernel) (by decide +kernel); refine ⟨_, rfl, a, _, _, rfl, g2, z2, a, _, 2, _, _, _, sd.antennas, rfl, L2, rfl, rfl, by omega, by omega, by omega, by omega, fun H3 s3 L3 => ?_⟩)
  (obtain ⟨_, _, g3, z3⟩ := LnAt.no L3 (m := "read_field") (by decide +kernel) (by decide +kernel) (by decide +kernel) (by decide +kernel); refine ⟨_, rfl, a, _, _, rfl, g3, z3, a, _, 4, _, _, _, sd.turn, rfl, L3, rfl, rfl, by omega, by omega, by omega, by omega, fun H10 s4 L10 => ?_⟩)
  refine ⟨_, rfl, _, rfl, _, rfl, fun x dx hx hdx ne => ?_⟩
  refine ⟨x, dx, _, _, _, rfl, upd_same, rfl, ?_⟩
  have sA : SameX a H H10 := (((SameX.of s1).trans s2).trans s3).trans s4
  have sB := same_made (o := .own x) (u := .ins CT dx []) (v := .ins CT dx (staF sd)) hx hdx
  obtain ⟨o, ho⟩ := L10.there
  exact q x _ (sA.free ho hx) (sA.trans (SameX.of sB)) (L10.same sB) ⟨x, dx, rfl, upd_same⟩
def spRdRec (K : PySem.W.Frag) (CL CR : Addr) : Sp := fun vs H Q _ => ∃ (a : Addr) (th : Addr) (W : WorldD) (s : RecD) (ns : List Str), vs = [.ref a, .int W.horizon, .ref th] ∧ LnAt CL H a (wRec W s) 1 ∧ NamesAt K H th 2 ns ∧ NamesAt K H th 0 (W.sats.map (·.name)) ∧ s.name ∉ ns ∧ WorldOk W ∧ RecOk W s ∧
  ∀ b H', H b = none → SameX a H H' → LnAt CL H' a (wRec W s) (wRec W s).length → RecAt CR H' (.ref b) s → Q (.ref b) H'
theorem d_read_recording (T : TxtW K mg CL CS CT CR CP CW aS aR fS fT fR fP) (D_names_of : DefOk P w K mg base CX0 1 "names_of" ["things"] (spNames K)) (D_Line_read_new_name : MDef P w K mg base CX0 4 CL "read_new_name" ["self", "used"] [] (spNewName K CL))
    (D_Line_read_field : MDef P w K mg base CX0 4 CL "read_field" ["self", "word", "least", "most"] [] (spField CL)) (D_Line_read_choice : MDef P w K mg base CX0 3 CL "read_choice" ["self", "choices"] [] (spChoice K CL))
    (D_Line_read_known_name : MDef P w K mg base CX0 4 CL "read_known_name" ["self", "names", "least"] [.int 0] (spKnownName K CL))
    (DI_Recording : MDef P w K mg base CX0 1 CR "__init__" ["self", "name", "satellite", "earliest", "latest", "length", "size", "energy", "worth", "rank", "deadline"] [] (spI_Recording CR))
    (A : At K mg "read_recording" s_read_recording ["line", "horizon", "things"]) : DefOk P w K mg base CX0 5 "read_recording" ["line", "horizon", "things"] (spRdRec K CL CR) := by
  have B := T.L.B
  refine A.ok sc_read_recording (fun vs H Q E h => ?_) (fun f cdv A outer s H vs Q E hr h => ?_)
  · obtain ⟨a, th, W, s, ns, rfl, _⟩ := h
    rfl
  obtain ⟨a, th, W, sd, ns, rfl, hL, hN, hS, hno, wok, ok, q⟩ := h
  refine ⟨_, pss_cons (ps_set (i := 3) sc_read_recording.nd rfl (Or.inl rfl) (pe_m D_Line_read_new_name T.c_Line.cl (hr.mono (by omega)) pass0 (pv 0) (pa_cons (pe_f D_names_of (hr.mono (by omega)) pass0 (pa_cons (pe_ix ix_tup (pv 2) (pe_gi T.g_RECORDINGS) (fun _ _ => rfl)) pa_nil)) pa_nil)))
  (pss_cons (ps_expr (pe_m D_Line_read_choice T.c_Line.cl (hr.mono (by omega)) pass0 (pv 0) (pa_cons (pe_tup (pa_cons pe_str pa_nil)) pa_nil)))
  (C8.pss_cut (ps_set (i := 4) sc_read_recording.nd rfl (Or.inl rfl) (pe_m D_Line_read_known_name T.c_Line.cl (hr.mono (by omega)) pass0 (pv 0) (pa_cons (pe_f D_names_of (hr.mono (by omega)) pass0 (pa_cons (pe_ix ix_tup (pv 2) (pe_gi T.g_SATELLITES) (fun _ _ => rfl)) pa_nil)) pa_nil)))
  (pss_cons (ps_set (i := 5) sc_read_recording.nd rfl (Or.inl rfl) (pe_m D_Line_read_field T.c_Line.cl (hr.mono (by omega)) pass0 (pv 0) (pa_cons pe_str (pa_cons pe_int (pa_cons (pe_op op_sub (pv 1) pe_int) pa_nil)))))
  (pss_cons (ps_set (i := 6) sc_read_recording.nd rfl (Or.inl rfl) (pe_m D_Line_read_field T.c_Line.cl (hr.mono (by omega)) pass0 (pv 0) (pa_cons pe_str (pa_cons (pv 5) (pa_cons (pe_callB (call_min2 rfl) (by rfl) B.min (by decide +kernel) (pa_cons (pe_op op_add (pv 5) (ClX.pe_cval (pe_ga T.c_World.gC) rfl)) (pa_cons (pe_op op_sub (pv 1) pe_int) pa_nil))) pa_nil)))))
  (pss_cons (ps_set (i := 7) sc_read_recording.nd rfl (Or.inl rfl) (pe_m D_Line_read_field T.c_Line.cl (hr.mono (by omega)) pass0 (pv 0) (pa_cons pe_str (pa_cons pe_int (pa_cons (pe_op op_sub (pv 1) (pv 6)) pa_nil)))))
  (pss_cons (ps_set (i := 8) sc_read_recording.nd rfl (Or.inl rfl) (pe_m D_Line_read_field T.c_Line.cl (hr.mono (by omega)) pass0 (pv 0) (pa_cons pe_str (pa_cons pe_int (pa_cons (pe_gi T.g_MOST_UNITS) pa_nil)))))
  (pss_cons (ps_set (i := 9) sc_read_recording.nd rfl (Or.inl rfl) (pe_m D_Line_read_field T.c_Line.cl (hr.mono (by omega)) pass0 (pv 0) (pa_cons pe_str (pa_cons pe_int (pa_cons (pe_gi T.g_MOST_UNITS) pa_nil)))))
  (pss_cons (ps_set (i := 10) sc_read_recording.nd rfl (Or.inl rfl) (pe_m D_Line_read_field T.c_Line.cl (hr.mono (by omega)) pass0 (pv 0) (pa_cons pe_str (pa_cons pe_int (pa_cons (pe_gi T.g_MOST_WORTH) pa_nil)))))
  (pss_cons (ps_set (i := 11) sc_read_recording.nd rfl (Or.inl rfl) (pe_m D_Line_read_field T.c_Line.cl (hr.mono (by omega)) pass0 (pv 0) (pa_cons pe_str (pa_cons pe_int (pa_cons (pe_gi T.g_MOST_RANK) pa_nil)))))
  (pss_cons (ps_set (i := 12) sc_read_recording.nd rfl (Or.inl rfl) (pe_m D_Line_read_field T.c_Line.cl (hr.mono (by omega)) pass0 (pv 0) (pa_cons pe_str (pa_cons pe_int (pa_cons (pv 1) pa_nil)))))
  (pss_one (ps_ret (pe_mk DI_Recording T.c_Recording (hr.mono (by omega)) pass0 (pa_cons (pv 3) (pa_cons (pv 4) (pa_cons (pv 5) (pa_cons (pv 6) (pa_cons (pv 7) (pa_cons (pv 8) (pa_cons (pv 9) (pa_cons (pv 10) (pa_cons (pv 11) (pa_cons (pv 12) pa_nil)))))))))))))))))))))))
    , ?_⟩
  have b0 := wok.horizon; have b1 := ok.earliest; have b2 := ok.latest; have b3 := ok.length; have b4 := ok.size; have b5 := ok.energy; have b6 := ok.worth; have b7 := ok.rank; have b8 := ok.deadline
  obtain ⟨ls, l, xs, t1, t2, t3, t4, t5⟩ := hN
  obtain ⟨_, _, g0, z0⟩ := LnAt.no hL (m := "read_new_name") (by decide +kernel) (by decide +kernel) (by decide +kernel) (by decide +kernel)
  refine ⟨_, rfl, a, _, _, rfl, g0, z0, _, rfl, th, _, _, .ref l, rfl, rfl, t1, atI_nat (j := 2) (by rw [List.getElem?_map, t2]; rfl), l, xs, ns, rfl, t3, t4, t5, fun p H1 s1 np hp => ?_⟩
  refine ⟨a, _, 1, p, ns, sd.name, rfl, hL.same s1, SqL.of hp, rfl, ok.name, hno, fun H2 s2 L2 => ?_⟩
  obtain ⟨_, _, g2, z2⟩ := LnAt.no L2 (m := "read_choice") (by decide +kernel) (by decide +kernel) (by decide +kernel) (by decide +kernel)
  refine ⟨_, rfl, a, _, _, rfl, g2, z2, (by show 1 ≤ sizeLine; decide), fun t ht => ?_⟩
  refine ⟨a, _, 2, t, [Str.ofString "by"], Str.ofString "by", rfl, L2.same (same_new ht _), SqT.of upd_same, rfl, List.mem_cons_self, fun H3 s3 L3 => ?_⟩
  have s03 : SameX a H H3 := (((SameX.of s1).trans s2).trans (SameX.of (same_new ht _))).trans s3
  refine ⟨fun σ' H' => σ' = [some (.ref a), some (.int W.horizon), some (.ref th), some (.str sd.name), some (.int (sd.sat : Int)), none, none, none, none, none, none, none, none] ∧ SameX a H H' ∧ LnAt CL H' a (wRec W sd) 4, ?_, fun σ' H5 h => ?_⟩
  · obtain ⟨ls', l', xs', u1, u2, u3, u4, u5⟩ := hS.sameX hL s03
    obtain ⟨_, _, g3, z3⟩ := LnAt.no L3 (m := "read_known_name") (by decide +kernel) (by decide +kernel) (by decide +kernel) (by decide +kernel)
    refine ⟨_, rfl, a, _, _, rfl, g3, z3, _, rfl, th, _, _, .ref l', rfl, rfl, u1, atI_nat (j := 0) (by rw [List.getElem?_map, u2]; rfl), l', xs', _, rfl, u3, u4, u5, fun p2 H4 s4 np2 hp2 => ?_⟩
    refine ⟨a, _, 3, p2, _, satN W sd.sat, sd.sat, 0, rfl, L3.same s4, SqL.of hp2, rfl, satN_ok wok ok.sat, satN_at ok.sat, wok.dSats, by omega, fun H5 s5 L5 => ?_⟩
    exact ⟨rfl, (s03.trans (SameX.of s4)).trans s5, L5⟩
  obtain ⟨rfl, s05, L5⟩ := h
  (obtain ⟨_, _, g5, z5⟩ := LnAt.no L5 (m := "read_field") (by decide +kernel) (by decide +kernel) (by decide +kernel) (by decide +kernel); refine ⟨_, rfl, a, _, _, rfl, g5, z5, _, rfl, _, _, rfl, rfl, a, _, 4, _, _, _, sd.earliest, rfl, L5, rfl, rfl, by omega, by omega, by omega, by omega, fun H6 s6 L6 => ?_⟩)
  obtain ⟨tk, hv⟩ := T.v_MOST_SHIFT
  (obtain ⟨_, _, g6, z6⟩ := LnAt.no L6 (m := "read_field") (by decide +kernel) (by decide +kernel) (by decide +kernel) (by decide +kernel); refine ⟨_, rfl, a, _, _, rfl, g6, z6, _, rfl, _, rfl, CW, _, _, _, rfl, T.rdW, hv, _, _, rfl, rfl, _, rfl, _, _, rfl, rfl, _, _, rfl, a, _, 6, _, _, _, sd.latest, rfl, L6, rfl, rfl, by omega, by omega, by omega, le_min2 (by omega) (by omega), fun H7 s7 L7 => ?_⟩)
  (obtain ⟨_, _, g7, z7⟩ := LnAt.no L7 (m := "read_field") (by decide +kernel) (by decide +kernel) (by decide +kernel) (by decide +kernel); refine ⟨_, rfl, a, _, _, rfl, g7, z7, _, rfl, _, rfl, _, _, rfl, rfl, a, _, 8, _, _, _, sd.length, rfl, L7, rfl, rfl, by omega, by omega, by omega, by omega, fun H8 s8 L8 => ?_⟩)
  (obtain ⟨_, _, g8, z8⟩ := LnAt.no L8 (m := "read_field") (by decide +kernel) (by decide +kernel) (by decide +kernel) (by decide +kernel); refine ⟨_, rfl, a, _, _, rfl, g8, z8, a, _, 10, _, _, _, sd.size, rfl, L8, rfl, rfl, by omega, by omega, by omega, by omega, fun H9 s9 L9 => ?_⟩)
  (obtain ⟨_, _, g9, z9⟩ := LnAt.no L9 (m := "read_field") (by decide +kernel) (by decide +kernel) (by decide +kernel) (by decide +kernel); refine ⟨_, rfl, a, _, _, rfl, g9, z9, a, _, 12, _, _, _, sd.energy, rfl, L9, rfl, rfl, by omega, by omega, by omega, by omega, fun H10 s10 L10 => ?_⟩)
  (obtain ⟨_, _, g10, z10⟩ := LnAt.no L10 (m := "read_field") (by decide +kernel) (by decide +kernel) (by decide +kernel) (by decide +kernel); refine ⟨_, rfl, a, _, _, rfl, g10, z10, a, _, 14, _, _, _, sd.worth, rfl, L10, rfl, rfl, by omega, by omega, by omega, by omega, fun H11 s11 L11 => ?_⟩)
  (obtain ⟨_, _, g11, z11⟩ := LnAt.no L11 (m := "read_field") (by decide +kernel) (by decide +kernel) (by decide +kernel) (by decide +kernel); refine ⟨_, rfl, a, _, _, rfl, g11, z11, a, _, 16, _, _, _, sd.rank, rfl, L11, rfl, rfl, by omega, by omega, by omega, by omega, fun H12 s12 L12 => ?_⟩)
  (obtain ⟨_, _, g12, z12⟩ := LnAt.no L12 (m := "read_field") (by decide +kernel) (by decide +kernel) (by decide +kernel) (by decide +kernel); refine ⟨_, rfl, a, _, _, rfl, g12, z12, _, rfl, a, _, 18, _, _, _, sd.deadline, rfl, L12, rfl, rfl, by omega, by omega, by omega, by omega, fun H13 s13 L13 => ?_⟩)
  refine ⟨_, rfl, _, rfl, _, rfl, _, rfl, _, rfl, _, rfl, _, rfl, _, rfl, _, rfl, _, rfl, fun x dx hx hdx ne => ?_⟩
  refine ⟨x, dx, _, _, _, _, _, _, _, _, _, _, rfl, upd_same, rfl, ?_⟩
  have sA : SameX a H H13 := (((((((s05.trans s6).trans s7).trans s8).trans s9).trans s10).trans s11).trans s12).trans s13
  have sB := same_made (o := .own x) (u := .ins CR dx []) (v := .ins CR dx (recF sd)) hx hdx
  obtain ⟨o, ho⟩ := L13.there
  exact q x _ (sA.free ho hx) (sA.trans (SameX.of sB)) (L13.same sB) ⟨x, dx, rfl, upd_same⟩
def spRdPas (K : PySem.W.Frag) (CL CP : Addr) : Sp := fun vs H Q _ => ∃ (a : Addr) (th : Addr) (W : WorldD) (s : PasD) (ns : List Str), vs = [.ref a, .int W.horizon, .ref th] ∧ LnAt CL H a (wPas W s) 1 ∧ NamesAt K H th 3 ns ∧ NamesAt K H th 0 (W.sats.map (·.name)) ∧ NamesAt K H th 1 (W.stas.map (·.name)) ∧ s.name ∉ ns ∧ WorldOk W ∧ PasOk W s ∧
  ∀ b H', H b = none → SameX a H H' → LnAt CL H' a (wPas W s) (wPas W s).length → PasAt K CP H' (.ref b) s → Q (.ref b) H'
theorem d_read_pass (T : TxtW K mg CL CS CT CR CP CW aS aR fS fT fR fP) (D_names_of : DefOk P w K mg base CX0 1 "names_of" ["things"] (spNames K)) (D_Line_read_new_name : MDef P w K mg base CX0 4 CL "read_new_name" ["self", "used"] [] (spNewName K CL))
    (D_Line_read_field : MDef P w K mg base CX0 4 CL "read_field" ["self", "word", "least", "most"] [] (spField CL)) (D_Line_read_choice : MDef P w K mg base CX0 3 CL "read_choice" ["self", "choices"] [] (spChoice K CL))
    (D_Line_read_known_name : MDef P w K mg base CX0 4 CL "read_known_name" ["self", "names", "least"] [.int 0] (spKnownName K CL))
    (DI_Pass : MDef P w K mg base CX0 1 CP "__init__" ["self", "name", "satellite", "station", "span", "room", "energy", "fee"] [] (spI_Pass CP))
    (A : At K mg "read_pass" s_read_pass ["line", "horizon", "things"]) : DefOk P w K mg base CX0 5 "read_pass" ["line", "horizon", "things"] (spRdPas K CL CP) := by
  have B := T.L.B
  refine A.ok sc_read_pass (fun vs H Q E h => ?_) (fun f cdv A outer s H vs Q E hr h => ?_)
  · obtain ⟨a, th, W, s, ns, rfl, _⟩ := h
    rfl
  obtain ⟨a, th, W, sd, ns, rfl, hL, hN, hS, hT, hno, wok, ok, q⟩ := h
  refine ⟨_, pss_cons (ps_set (i := 3) sc_read_pass.nd rfl (Or.inl rfl) (pe_m D_Line_read_new_name T.c_Line.cl (hr.mono (by omega)) pass0 (pv 0) (pa_cons (pe_f D_names_of (hr.mono (by omega)) pass0 (pa_cons (pe_ix ix_tup (pv 2) (pe_gi T.g_PASSES) (fun _ _ => rfl)) pa_nil)) pa_nil)))
  (pss_cons (ps_expr (pe_m D_Line_read_choice T.c_Line.cl (hr.mono (by omega)) pass0 (pv 0) (pa_cons (pe_tup (pa_cons pe_str pa_nil)) pa_nil)))
  (pss_cons (ps_set (i := 4) sc_read_pass.nd rfl (Or.inl rfl) (pe_m D_Line_read_known_name T.c_Line.cl (hr.mono (by omega)) pass0 (pv 0) (pa_cons (pe_f D_names_of (hr.mono (by omega)) pass0 (pa_cons (pe_ix ix_tup (pv 2) (pe_gi T.g_SATELLITES) (fun _ _ => rfl)) pa_nil)) pa_nil)))
  (pss_cons (ps_expr (pe_m D_Line_read_choice T.c_Line.cl (hr.mono (by omega)) pass0 (pv 0) (pa_cons (pe_tup (pa_cons pe_str pa_nil)) pa_nil)))
  (C8.pss_cut (ps_set (i := 5) sc_read_pass.nd rfl (Or.inl rfl) (pe_m D_Line_read_known_name T.c_Line.cl (hr.mono (by omega)) pass0 (pv 0) (pa_cons (pe_f D_names_of (hr.mono (by omega)) pass0 (pa_cons (pe_ix ix_tup (pv 2) (pe_gi T.g_STATIONS) (fun _ _ => rfl)) pa_nil)) pa_nil)))
  (pss_cons (ps_set (i := 6) sc_read_pass.nd rfl (Or.inl rfl) (pe_m D_Line_read_field T.c_Line.cl (hr.mono (by omega)) pass0 (pv 0) (pa_cons pe_str (pa_cons pe_int (pa_cons (pe_op op_sub (pv 1) pe_int) pa_nil)))))
  (pss_cons (ps_set (i := 7) sc_read_pass.nd rfl (Or.inl rfl) (pe_m D_Line_read_field T.c_Line.cl (hr.mono (by omega)) pass0 (pv 0) (pa_cons pe_str (pa_cons (pe_op op_add (pv 6) pe_int) (pa_cons (pv 1) pa_nil)))))
  (pss_cons (ps_set (i := 8) sc_read_pass.nd rfl (Or.inl rfl) (pe_m D_Line_read_field T.c_Line.cl (hr.mono (by omega)) pass0 (pv 0) (pa_cons pe_str (pa_cons pe_int (pa_cons (pe_gi T.g_MOST_UNITS) pa_nil)))))
  (pss_cons (ps_set (i := 9) sc_read_pass.nd rfl (Or.inl rfl) (pe_m D_Line_read_field T.c_Line.cl (hr.mono (by omega)) pass0 (pv 0) (pa_cons pe_str (pa_cons pe_int (pa_cons (pe_gi T.g_MOST_UNITS) pa_nil)))))
  (pss_cons (ps_set (i := 10) sc_read_pass.nd rfl (Or.inl rfl) (pe_m D_Line_read_field T.c_Line.cl (hr.mono (by omega)) pass0 (pv 0) (pa_cons pe_str (pa_cons pe_int (pa_cons (pe_gi T.g_MOST_FEE) pa_nil)))))
  (pss_one (ps_ret (pe_mk DI_Pass T.c_Pass (hr.mono (by omega)) pass0 (pa_cons (pv 3) (pa_cons (pv 4) (pa_cons (pv 5) (pa_cons (pe_tup (pa_cons (pv 6) (pa_cons (pv 7) pa_nil))) (pa_cons (pv 8) (pa_cons (pv 9) (pa_cons (pv 10) pa_nil)))))))))))))))))))
    , ?_⟩
  have b0 := wok.horizon; have b1 := ok.first; have b2 := ok.fin; have b3 := ok.room; have b4 := ok.energy; have b5 := ok.fee
  obtain ⟨ls, l, xs, t1, t2, t3, t4, t5⟩ := hN
  obtain ⟨_, _, g0, z0⟩ := LnAt.no hL (m := "read_new_name") (by decide +kernel) (by decide +kernel) (by decide +kernel) (by decide +kernel)
  refine ⟨_, rfl, a, _, _, rfl, g0, z0, _, rfl, th, _, _, .ref l, rfl, rfl, t1, atI_nat (j := 3) (by rw [List.getElem?_map, t2]; rfl), l, xs, ns, rfl, t3, t4, t5, fun p H1 s1 np hp => ?_⟩
  refine ⟨a, _, 1, p, ns, sd.name, rfl, hL.same s1, SqL.of hp, rfl, ok.name, hno, fun H2 s2 L2 => ?_⟩
  obtain ⟨_, _, g2, z2⟩ := LnAt.no L2 (m := "read_choice") (by decide +kernel) (by decide +kernel) (by decide +kernel) (by decide +kernel)
  refine ⟨_, rfl, a, _, _, rfl, g2, z2, (by show 1 ≤ sizeLine; decide), fun t ht => ?_⟩
  refine ⟨a, _, 2, t, [Str.ofString "by"], Str.ofString "by", rfl, L2.same (same_new ht _), SqT.of upd_same, rfl, List.mem_cons_self, fun H3 s3 L3 => ?_⟩
  have s03 : SameX a H H3 := (((SameX.of s1).trans s2).trans (SameX.of (same_new ht _))).trans s3
  obtain ⟨ls', l', xs', u1, u2, u3, u4, u5⟩ := hS.sameX hL s03
  obtain ⟨_, _, g3, z3⟩ := LnAt.no L3 (m := "read_known_name") (by decide +kernel) (by decide +kernel) (by decide +kernel) (by decide +kernel)
  refine ⟨_, rfl, a, _, _, rfl, g3, z3, _, rfl, th, _, _, .ref l', rfl, rfl, u1, atI_nat (j := 0) (by rw [List.getElem?_map, u2]; rfl), l', xs', _, rfl, u3, u4, u5, fun p2 H4 s4 np2 hp2 => ?_⟩
  refine ⟨a, _, 3, p2, _, satN W sd.sat, sd.sat, 0, rfl, L3.same s4, SqL.of hp2, rfl, satN_ok wok ok.sat, satN_at ok.sat, wok.dSats, by omega, fun H5 s5 L5 => ?_⟩
  obtain ⟨_, _, g5, z5⟩ := LnAt.no L5 (m := "read_choice") (by decide +kernel) (by decide +kernel) (by decide +kernel) (by decide +kernel)
  refine ⟨_, rfl, a, _, _, rfl, g5, z5, (by show 1 ≤ sizeLine; decide), fun t3 ht3 => ?_⟩
  refine ⟨a, _, 4, t3, [Str.ofString "over"], Str.ofString "over", rfl, L5.same (same_new ht3 _), SqT.of upd_same, rfl, List.mem_cons_self, fun H6 s6 L6 => ?_⟩
  have s06 : SameX a H H6 := (((s03.trans (SameX.of s4)).trans s5).trans (SameX.of (same_new ht3 _))).trans s6
  refine ⟨fun σ' H' => σ' = [some (.ref a), some (.int W.horizon), some (.ref th), some (.str sd.name), some (.int (sd.sat : Int)), some (.int (sd.sta : Int)), none, none, none, none, none] ∧ SameX a H H' ∧ LnAt CL H' a (wPas W sd) 6, ?_, fun σ' H8 h => ?_⟩
  · obtain ⟨ls6, l6, xs6, v1, v2, v3, v4, v5⟩ := hT.sameX hL s06
    obtain ⟨_, _, g6, z6⟩ := LnAt.no L6 (m := "read_known_name") (by decide +kernel) (by decide +kernel) (by decide +kernel) (by decide +kernel)
    refine ⟨_, rfl, a, _, _, rfl, g6, z6, _, rfl, th, _, _, .ref l6, rfl, rfl, v1, atI_nat (j := 1) (by rw [List.getElem?_map, v2]; rfl), l6, xs6, _, rfl, v3, v4, v5, fun p7 H7 s7 np7 hp7 => ?_⟩
    refine ⟨a, _, 5, p7, _, staN W sd.sta, sd.sta, 0, rfl, L6.same s7, SqL.of hp7, rfl, staN_ok wok ok.sta, staN_at ok.sta, wok.dStas, by omega, fun H8 s8 L8 => ?_⟩
    exact ⟨rfl, (s06.trans (SameX.of s7)).trans s8, L8⟩
  obtain ⟨rfl, s08, L8⟩ := h
  (obtain ⟨_, _, g8, z8⟩ := LnAt.no L8 (m := "read_field") (by decide +kernel) (by decide +kernel) (by decide +kernel) (by decide +kernel); refine ⟨_, rfl, a, _, _, rfl, g8, z8, _, rfl, _, _, rfl, rfl, a, _, 6, _, _, _, sd.first, rfl, L8, rfl, rfl, by omega, by omega, by omega, by omega, fun H9 s9 L9 => ?_⟩)
  (obtain ⟨_, _, g9, z9⟩ := LnAt.no L9 (m := "read_field") (by decide +kernel) (by decide +kernel) (by decide +kernel) (by decide +kernel); refine ⟨_, rfl, a, _, _, rfl, g9, z9, _, rfl, _, _, rfl, rfl, _, rfl, a, _, 8, _, _, _, sd.fin, rfl, L9, rfl, rfl, by omega, by omega, by omega, by omega, fun H10 s10 L10 => ?_⟩)
  (obtain ⟨_, _, g10, z10⟩ := LnAt.no L10 (m := "read_field") (by decide +kernel) (by decide +kernel) (by decide +kernel) (by decide +kernel); refine ⟨_, rfl, a, _, _, rfl, g10, z10, a, _, 10, _, _, _, sd.room, rfl, L10, rfl, rfl, by omega, by omega, by omega, by omega, fun H11 s11 L11 => ?_⟩)
  (obtain ⟨_, _, g11, z11⟩ := LnAt.no L11 (m := "read_field") (by decide +kernel) (by decide +kernel) (by decide +kernel) (by decide +kernel); refine ⟨_, rfl, a, _, _, rfl, g11, z11, a, _, 12, _, _, _, sd.energy, rfl, L11, rfl, rfl, by omega, by omega, by omega, by omega, fun H12 s12 L12 => ?_⟩)
  (obtain ⟨_, _, g12, z12⟩ := LnAt.no L12 (m := "read_field") (by decide +kernel) (by decide +kernel) (by decide +kernel) (by decide +kernel); refine ⟨_, rfl, a, _, _, rfl, g12, z12, a, _, 14, _, _, _, sd.fee, rfl, L12, rfl, rfl, by omega, by omega, by omega, by omega, fun H13 s13 L13 => ?_⟩)
  refine ⟨_, rfl, _, rfl, _, rfl, _, rfl, _, rfl, (by show 2 ≤ sizeLine; decide), fun sp hsp => ⟨_, rfl, _, rfl, _, rfl, fun x dx hx hdx ne => ?_⟩⟩
  refine ⟨x, dx, _, _, _, _, _, _, _, rfl, upd_same, rfl, ?_⟩
  have sA : SameX a H (upd H13 sp (.tup [.int sd.first, .int sd.fin])) := (((((s08.trans s9).trans s10).trans s11).trans s12).trans s13).trans (SameX.of (same_new hsp _))
  have sB := same_made (o := .own x) (u := .ins CP dx []) (v := .ins CP dx (pasF sd sp)) hx hdx
  have L14 := L13.same (same_new hsp (.tup [.int sd.first, .int sd.fin]))
  obtain ⟨o, ho⟩ := L14.there
  exact q x _ (sA.free ho hx) (sA.trans (SameX.of sB)) (L14.same sB) ⟨x, dx, sp, rfl, upd_same, SqT.of (sB _ _ upd_same)⟩
end
end DP
namespace DP
open PySem PySem.Spec PyProof.Rows L2
section
variable {K : PySem.W.Frag} {CL CS CT CR CP : Addr} {H H' : Hp} {a L : Addr} {ws : List Str} {r : Nat} {x : V} {ys : List V} {o : HO}
theorem SatAt.same {s : SatD} (h : SatAt K CS H x s) (z : Same H H') : SatAt K CS H' x s := by
  obtain ⟨b, dx, t, ls, h1, h2, h3, h4⟩ := h
  exact ⟨b, dx, t, ls, h1, z _ _ h2, Same.tup z h3, h4.same z⟩
theorem StaAt.same {s : StaD} (h : StaAt CT H x s) (z : Same H H') : StaAt CT H' x s := by
  obtain ⟨b, dx, h1, h2⟩ := h
  exact ⟨b, dx, h1, z _ _ h2⟩
theorem RecAt.same {s : RecD} (h : RecAt CR H x s) (z : Same H H') : RecAt CR H' x s := by
  obtain ⟨b, dx, h1, h2⟩ := h
  exact ⟨b, dx, h1, z _ _ h2⟩
theorem PasAt.same {s : PasD} (h : PasAt K CP H x s) (z : Same H H') : PasAt K CP H' x s := by
  obtain ⟨b, dx, t, h1, h2, h3⟩ := h
  exact ⟨b, dx, t, h1, z _ _ h2, Same.tup z h3⟩
theorem SatAt.sx {s : SatD} (h : SatAt K CS H x s) (hL : LnAt CL H a ws r) (z : SameX a H H') : SatAt K CS H' x s := by
  obtain ⟨dx', n, wl, c, g1, g2⟩ := hL.ex
  obtain ⟨b, dx, t, ls, h1, h2, h3, h4⟩ := h
  exact ⟨b, dx, t, ls, h1, z.ins g1 h2 (by show 8 ≠ 4; decide), z.sqT g1 h3, z.spans g1 h4⟩
theorem StaAt.sx {s : StaD} (h : StaAt CT H x s) (hL : LnAt CL H a ws r) (z : SameX a H H') : StaAt CT H' x s := by
  obtain ⟨dx', n, wl, c, g1, g2⟩ := hL.ex
  obtain ⟨b, dx, h1, h2⟩ := h
  exact ⟨b, dx, h1, z.ins g1 h2 (by show 3 ≠ 4; decide)⟩
theorem RecAt.sx {s : RecD} (h : RecAt CR H x s) (hL : LnAt CL H a ws r) (z : SameX a H H') : RecAt CR H' x s := by
  obtain ⟨dx', n, wl, c, g1, g2⟩ := hL.ex
  obtain ⟨b, dx, h1, h2⟩ := h
  exact ⟨b, dx, h1, z.ins g1 h2 (by show 10 ≠ 4; decide)⟩
theorem PasAt.sx {s : PasD} (h : PasAt K CP H x s) (hL : LnAt CL H a ws r) (z : SameX a H H') : PasAt K CP H' x s := by
  obtain ⟨dx', n, wl, c, g1, g2⟩ := hL.ex
  obtain ⟨b, dx, t, h1, h2, h3⟩ := h
  exact ⟨b, dx, t, h1, z.ins g1 h2 (by show 7 ≠ 4; decide), z.sqT g1 h3⟩
theorem SatAt.up {s : SatD} (h : SatAt K CS H x s) (e : H L = some (.lst ys)) : SatAt K CS (L2.upd H L o) x s := by
  obtain ⟨b, dx, t, ls, h1, h2, h3, h4⟩ := h
  exact ⟨b, dx, t, ls, h1, by rw [upd_ne (ne_of h2 e (fun z => nomatch z))]; exact h2, sqT_upd h3 e, h4.upd e⟩
theorem StaAt.up {s : StaD} (h : StaAt CT H x s) (e : H L = some (.lst ys)) : StaAt CT (L2.upd H L o) x s := by
  obtain ⟨b, dx, h1, h2⟩ := h
  exact ⟨b, dx, h1, by rw [upd_ne (ne_of h2 e (fun z => nomatch z))]; exact h2⟩
theorem RecAt.up {s : RecD} (h : RecAt CR H x s) (e : H L = some (.lst ys)) : RecAt CR (L2.upd H L o) x s := by
  obtain ⟨b, dx, h1, h2⟩ := h
  exact ⟨b, dx, h1, by rw [upd_ne (ne_of h2 e (fun z => nomatch z))]; exact h2⟩
theorem PasAt.up {s : PasD} (h : PasAt K CP H x s) (e : H L = some (.lst ys)) : PasAt K CP (L2.upd H L o) x s := by
  obtain ⟨b, dx, t, h1, h2, h3⟩ := h
  exact ⟨b, dx, t, h1, by rw [upd_ne (ne_of h2 e (fun z => nomatch z))]; exact h2, sqT_upd h3 e⟩
/-- a line stays where a list of objects is changed -/
theorem LnAt.up (h : LnAt CL H a ws r) (hne : ws ≠ []) (e : H L = some (.lst ys)) (hr : ∀ y ∈ ys, ∃ t, y = V.ref t) : LnAt CL (L2.upd H L o) a ws r := by
  obtain ⟨dx, n, wl, c, h1, h2⟩ := h.ex
  refine ⟨⟨dx, n, wl, c, by rw [upd_ne (ne_of h1 e (fun z => nomatch z))]; exact h1, ?_⟩, h.ok⟩
  rw [upd_ne]
  · exact h2
  · intro z
    rw [z, e] at h2
    have e2 : ys = ws.map V.str := HO.lst.inj (Option.some.inj h2)
    cases ws with
    | nil => exact hne rfl
    | cons w wr =>
      obtain ⟨t, ht⟩ := hr (.str w) (by rw [e2]; exact List.mem_cons_self)
      cases ht
theorem LnAt.sx {b : Addr} {vs : List Str} {q : Nat} (h : LnAt CL H a ws r) (hL : LnAt CL H b vs q) (n : a ≠ b) (z : SameX b H H') : LnAt CL H' a ws r := by
  obtain ⟨dx', n', wl', c', g1, g2⟩ := hL.ex
  obtain ⟨dx, m, wl, c, h1, h2⟩ := h.ex
  exact ⟨⟨dx, m, wl, c, z _ _ n h1, z _ _ (ne_of h2 g1 (fun z => nomatch z)) h2⟩, h.ok⟩
end
/-- the four lists of a world's things as far as they are read -/
structure Thg (K : PySem.W.Frag) (CS CT CR CP : Addr) (H : Hp) (th l0 l1 l2 l3 : Addr) (S : List SatD) (T : List StaD) (R : List RecD) (P : List PasD) : Prop where
  tup : H th = some (.tup [.ref l0, .ref l1, .ref l2, .ref l3])
  d01 : l0 ≠ l1
  d02 : l0 ≠ l2
  d03 : l0 ≠ l3
  d12 : l1 ≠ l2
  d13 : l1 ≠ l3
  d23 : l2 ≠ l3
  sats : ∃ xs, H l0 = some (.lst xs) ∧ Paired (SatAt K CS H) xs S
  stas : ∃ xs, H l1 = some (.lst xs) ∧ Paired (StaAt CT H) xs T
  recs : ∃ xs, H l2 = some (.lst xs) ∧ Paired (RecAt CR H) xs R
  pass : ∃ xs, H l3 = some (.lst xs) ∧ Paired (PasAt K CP H) xs P
theorem refs_sat {K : PySem.W.Frag} {C : Addr} {H : Hp} {xs : List V} {S : List SatD} (h : Paired (SatAt K C H) xs S) : ∀ y ∈ xs, ∃ t, y = V.ref t := fun y hy => by
  obtain ⟨i, hi, e⟩ := List.mem_iff_getElem.mp hy
  obtain ⟨s, _, b, _, _, _, e1, _⟩ := paired_at h (List.getElem?_eq_getElem hi)
  exact ⟨b, by rw [← e, e1]⟩
theorem refs_sta {C : Addr} {H : Hp} {xs : List V} {S : List StaD} (h : Paired (StaAt C H) xs S) : ∀ y ∈ xs, ∃ t, y = V.ref t := fun y hy => by
  obtain ⟨i, hi, e⟩ := List.mem_iff_getElem.mp hy
  obtain ⟨s, _, b, _, e1, _⟩ := paired_at h (List.getElem?_eq_getElem hi)
  exact ⟨b, by rw [← e, e1]⟩
theorem refs_rec {C : Addr} {H : Hp} {xs : List V} {S : List RecD} (h : Paired (RecAt C H) xs S) : ∀ y ∈ xs, ∃ t, y = V.ref t := fun y hy => by
  obtain ⟨i, hi, e⟩ := List.mem_iff_getElem.mp hy
  obtain ⟨s, _, b, _, e1, _⟩ := paired_at h (List.getElem?_eq_getElem hi)
  exact ⟨b, by rw [← e, e1]⟩
theorem refs_pas {K : PySem.W.Frag} {C : Addr} {H : Hp} {xs : List V} {S : List PasD} (h : Paired (PasAt K C H) xs S) : ∀ y ∈ xs, ∃ t, y = V.ref t := fun y hy => by
  obtain ⟨i, hi, e⟩ := List.mem_iff_getElem.mp hy
  obtain ⟨s, _, b, _, _, e1, _⟩ := paired_at h (List.getElem?_eq_getElem hi)
  exact ⟨b, by rw [← e, e1]⟩
section
variable {K : PySem.W.Frag} {CL CS CT CR CP : Addr} {H H' : Hp} {a th l0 l1 l2 l3 : Addr} {ws : List Str} {r : Nat} {S : List SatD} {T : List StaD} {R : List RecD} {P : List PasD}
theorem Thg.same (h : Thg K CS CT CR CP H th l0 l1 l2 l3 S T R P) (z : Same H H') : Thg K CS CT CR CP H' th l0 l1 l2 l3 S T R P := by
  obtain ⟨x0, a0, b0⟩ := h.sats
  obtain ⟨x1, a1, b1⟩ := h.stas
  obtain ⟨x2, a2, b2⟩ := h.recs
  obtain ⟨x3, a3, b3⟩ := h.pass
  exact ⟨z _ _ h.tup, h.d01, h.d02, h.d03, h.d12, h.d13, h.d23, ⟨x0, z _ _ a0, Paired.mapP b0 fun _ _ y => y.same z⟩, ⟨x1, z _ _ a1, Paired.mapP b1 fun _ _ y => y.same z⟩, ⟨x2, z _ _ a2, Paired.mapP b2 fun _ _ y => y.same z⟩, ⟨x3, z _ _ a3, Paired.mapP b3 fun _ _ y => y.same z⟩⟩
theorem Thg.sx (h : Thg K CS CT CR CP H th l0 l1 l2 l3 S T R P) (hL : LnAt CL H a ws r) (z : SameX a H H') : Thg K CS CT CR CP H' th l0 l1 l2 l3 S T R P := by
  obtain ⟨dx', n', wl', c', g1, g2⟩ := hL.ex
  obtain ⟨x0, a0, b0⟩ := h.sats
  obtain ⟨x1, a1, b1⟩ := h.stas
  obtain ⟨x2, a2, b2⟩ := h.recs
  obtain ⟨x3, a3, b3⟩ := h.pass
  exact ⟨z _ _ (ne_of h.tup g1 (fun z => nomatch z)) h.tup, h.d01, h.d02, h.d03, h.d12, h.d13, h.d23, ⟨x0, z _ _ (ne_of a0 g1 (fun z => nomatch z)) a0, Paired.mapP b0 fun _ _ y => y.sx hL z⟩, ⟨x1, z _ _ (ne_of a1 g1 (fun z => nomatch z)) a1, Paired.mapP b1 fun _ _ y => y.sx hL z⟩,
    ⟨x2, z _ _ (ne_of a2 g1 (fun z => nomatch z)) a2, Paired.mapP b2 fun _ _ y => y.sx hL z⟩, ⟨x3, z _ _ (ne_of a3 g1 (fun z => nomatch z)) a3, Paired.mapP b3 fun _ _ y => y.sx hL z⟩⟩
theorem Thg.push0 {xs : List V} {b : Addr} {s : SatD} (h : Thg K CS CT CR CP H th l0 l1 l2 l3 S T R P) (e : H l0 = some (.lst xs)) (k : SatAt K CS H (.ref b) s) : Thg K CS CT CR CP (L2.upd H l0 (.lst (xs ++ [.ref b]))) th l0 l1 l2 l3 (S ++ [s]) T R P := by
  obtain ⟨x0, a0, b0⟩ := h.sats
  obtain ⟨x1, a1, b1⟩ := h.stas
  obtain ⟨x2, a2, b2⟩ := h.recs
  obtain ⟨x3, a3, b3⟩ := h.pass
  have ex : x0 = xs := HO.lst.inj (Option.some.inj (a0.symm.trans e))
  subst ex
  exact ⟨by rw [upd_ne (ne_of h.tup e (fun z => nomatch z))]; exact h.tup, h.d01, h.d02, h.d03, h.d12, h.d13, h.d23, ⟨_, upd_same, paired_snoc (Paired.mapP b0 fun _ _ y => y.up e) (k.up e)⟩, ⟨x1, by rw [upd_ne h.d01.symm]; exact a1, Paired.mapP b1 fun _ _ y => y.up e⟩,
    ⟨x2, by rw [upd_ne h.d02.symm]; exact a2, Paired.mapP b2 fun _ _ y => y.up e⟩, ⟨x3, by rw [upd_ne h.d03.symm]; exact a3, Paired.mapP b3 fun _ _ y => y.up e⟩⟩
theorem Thg.push1 {xs : List V} {b : Addr} {s : StaD} (h : Thg K CS CT CR CP H th l0 l1 l2 l3 S T R P) (e : H l1 = some (.lst xs)) (k : StaAt CT H (.ref b) s) : Thg K CS CT CR CP (L2.upd H l1 (.lst (xs ++ [.ref b]))) th l0 l1 l2 l3 S (T ++ [s]) R P := by
  obtain ⟨x0, a0, b0⟩ := h.sats
  obtain ⟨x1, a1, b1⟩ := h.stas
  obtain ⟨x2, a2, b2⟩ := h.recs
  obtain ⟨x3, a3, b3⟩ := h.pass
  have ex : x1 = xs := HO.lst.inj (Option.some.inj (a1.symm.trans e))
  subst ex
  exact ⟨by rw [upd_ne (ne_of h.tup e (fun z => nomatch z))]; exact h.tup, h.d01, h.d02, h.d03, h.d12, h.d13, h.d23, ⟨x0, by rw [upd_ne h.d01]; exact a0, Paired.mapP b0 fun _ _ y => y.up e⟩, ⟨_, upd_same, paired_snoc (Paired.mapP b1 fun _ _ y => y.up e) (k.up e)⟩,
    ⟨x2, by rw [upd_ne h.d12.symm]; exact a2, Paired.mapP b2 fun _ _ y => y.up e⟩, ⟨x3, by rw [upd_ne h.d13.symm]; exact a3, Paired.mapP b3 fun _ _ y => y.up e⟩⟩
theorem Thg.push2 {xs : List V} {b : Addr} {s : RecD} (h : Thg K CS CT CR CP H th l0 l1 l2 l3 S T R P) (e : H l2 = some (.lst xs)) (k : RecAt CR H (.ref b) s) : Thg K CS CT CR CP (L2.upd H l2 (.lst (xs ++ [.ref b]))) th l0 l1 l2 l3 S T (R ++ [s]) P := by
  obtain ⟨x0, a0, b0⟩ := h.sats
  obtain ⟨x1, a1, b1⟩ := h.stas
  obtain ⟨x2, a2, b2⟩ := h.recs
  obtain ⟨x3, a3, b3⟩ := h.pass
  have ex : x2 = xs := HO.lst.inj (Option.some.inj (a2.symm.trans e))
  subst ex
  exact ⟨by rw [upd_ne (ne_of h.tup e (fun z => nomatch z))]; exact h.tup, h.d01, h.d02, h.d03, h.d12, h.d13, h.d23, ⟨x0, by rw [upd_ne h.d02]; exact a0, Paired.mapP b0 fun _ _ y => y.up e⟩, ⟨x1, by rw [upd_ne h.d12]; exact a1, Paired.mapP b1 fun _ _ y => y.up e⟩,
    ⟨_, upd_same, paired_snoc (Paired.mapP b2 fun _ _ y => y.up e) (k.up e)⟩, ⟨x3, by rw [upd_ne h.d23.symm]; exact a3, Paired.mapP b3 fun _ _ y => y.up e⟩⟩
theorem Thg.push3 {xs : List V} {b : Addr} {s : PasD} (h : Thg K CS CT CR CP H th l0 l1 l2 l3 S T R P) (e : H l3 = some (.lst xs)) (k : PasAt K CP H (.ref b) s) : Thg K CS CT CR CP (L2.upd H l3 (.lst (xs ++ [.ref b]))) th l0 l1 l2 l3 S T R (P ++ [s]) := by
  obtain ⟨x0, a0, b0⟩ := h.sats
  obtain ⟨x1, a1, b1⟩ := h.stas
  obtain ⟨x2, a2, b2⟩ := h.recs
  obtain ⟨x3, a3, b3⟩ := h.pass
  have ex : x3 = xs := HO.lst.inj (Option.some.inj (a3.symm.trans e))
  subst ex
  exact ⟨by rw [upd_ne (ne_of h.tup e (fun z => nomatch z))]; exact h.tup, h.d01, h.d02, h.d03, h.d12, h.d13, h.d23, ⟨x0, by rw [upd_ne h.d03]; exact a0, Paired.mapP b0 fun _ _ y => y.up e⟩, ⟨x1, by rw [upd_ne h.d13]; exact a1, Paired.mapP b1 fun _ _ y => y.up e⟩,
    ⟨x2, by rw [upd_ne h.d23]; exact a2, Paired.mapP b2 fun _ _ y => y.up e⟩, ⟨_, upd_same, paired_snoc (Paired.mapP b3 fun _ _ y => y.up e) (k.up e)⟩⟩
end
theorem paired_map {α β γ : Type} {F : α → β → Prop} {G : α → γ → Prop} {f : β → γ} (h : ∀ a b, F a b → G a (f b)) : ∀ {xs : List α} {ys : List β}, Paired F xs ys → Paired G xs (ys.map f)
  | _, _, .nil => .nil
  | _, _, .cons a t => .cons (h _ _ a) (paired_map h t)
section
variable {K : PySem.W.Frag} {mg : Str → Option Value} {CL CS CT CR CP CW aS aR fS fT fR fP : Addr} {H : Hp} {th l0 l1 l2 l3 : Addr} {S : List SatD} {T : List StaD} {R : List RecD} {P : List PasD}
theorem Thg.list (h : Thg K CS CT CR CP H th l0 l1 l2 l3 S T R P) : SqT K H th (([l0, l1, l2, l3]).map V.ref) := SqT.of h.tup
theorem Thg.n0 (X : TxtW K mg CL CS CT CR CP CW aS aR fS fT fR fP) (h : Thg K CS CT CR CP H th l0 l1 l2 l3 S T R P) (hl : S.length ≤ 100) : NamesAt K H th 0 (S.map (·.name)) := by
  obtain ⟨xs, a, b⟩ := h.sats
  exact ⟨[l0, l1, l2, l3], l0, xs, h.list, rfl, SqL.of a, paired_map (fun _ _ ⟨b, dx, t, ls, h1, h2, _⟩ => ⟨b, CS, dx, _, h1, h2, X.c_Satellite.cl, X.n_Satellite_name, lk_hit⟩) b, by rw [List.length_map]; exact hl⟩
theorem Thg.n1 (X : TxtW K mg CL CS CT CR CP CW aS aR fS fT fR fP) (h : Thg K CS CT CR CP H th l0 l1 l2 l3 S T R P) (hl : T.length ≤ 100) : NamesAt K H th 1 (T.map (·.name)) := by
  obtain ⟨xs, a, b⟩ := h.stas
  exact ⟨[l0, l1, l2, l3], l1, xs, h.list, rfl, SqL.of a, paired_map (fun _ _ ⟨b, dx, h1, h2⟩ => ⟨b, CT, dx, _, h1, h2, X.c_Station.cl, X.n_Station_name, lk_hit⟩) b, by rw [List.length_map]; exact hl⟩
theorem Thg.n2 (X : TxtW K mg CL CS CT CR CP CW aS aR fS fT fR fP) (h : Thg K CS CT CR CP H th l0 l1 l2 l3 S T R P) (hl : R.length ≤ 100) : NamesAt K H th 2 (R.map (·.name)) := by
  obtain ⟨xs, a, b⟩ := h.recs
  exact ⟨[l0, l1, l2, l3], l2, xs, h.list, rfl, SqL.of a, paired_map (fun _ _ ⟨b, dx, h1, h2⟩ => ⟨b, CR, dx, _, h1, h2, X.c_Recording.cl, X.n_Recording_name, lk_hit⟩) b, by rw [List.length_map]; exact hl⟩
theorem Thg.n3 (X : TxtW K mg CL CS CT CR CP CW aS aR fS fT fR fP) (h : Thg K CS CT CR CP H th l0 l1 l2 l3 S T R P) (hl : P.length ≤ 100) : NamesAt K H th 3 (P.map (·.name)) := by
  obtain ⟨xs, a, b⟩ := h.pass
  exact ⟨[l0, l1, l2, l3], l3, xs, h.list, rfl, SqL.of a, paired_map (fun _ _ ⟨b, dx, t, h1, h2, _⟩ => ⟨b, CP, dx, _, h1, h2, X.c_Pass.cl, X.n_Pass_name, lk_hit⟩) b, by rw [List.length_map]; exact hl⟩
end
end DP
namespace DP
open PySem PySem.Spec PyProof.Rows L2
/-- what is read ahead of the i-th line behind the first one -/
def preS (W : WorldD) (i : Nat) : List SatD := W.sats.take i
def preT (W : WorldD) (i : Nat) : List StaD := W.stas.take (i - W.sats.length)
def preR (W : WorldD) (i : Nat) : List RecD := W.recs.take (i - W.sats.length - W.stas.length)
def preP (W : WorldD) (i : Nat) : List PasD := W.pass.take (i - W.sats.length - W.stas.length - W.recs.length)
/-- the lines behind the first one -/
def restW (W : WorldD) : List (List Str) := W.sats.map wSat ++ W.stas.map wSta ++ W.recs.map (wRec W) ++ W.pass.map (wPas W)
/-- the sort of the i-th -/
def kindW (W : WorldD) (i : Nat) : Nat := if i < W.sats.length then 0 else if i < W.sats.length + W.stas.length then 1 else if i < W.sats.length + W.stas.length + W.recs.length then 2 else 3
theorem restW_len (W : WorldD) : (restW W).length = W.sats.length + W.stas.length + W.recs.length + W.pass.length := by
  unfold restW
  rw [List.length_append, List.length_append, List.length_append, List.length_map, List.length_map, List.length_map, List.length_map]
theorem take_snoc {α : Type} {l : List α} {i : Nat} {x : α} (h : l[i]? = some x) : l.take (i + 1) = l.take i ++ [x] := by
  rw [List.take_add_one, h]
  rfl
theorem sub_lo {i a : Nat} (h : i < a) : i + 1 - a = i - a := by rw [Nat.sub_eq_zero_of_le h, Nat.sub_eq_zero_of_le (Nat.le_of_lt h)]
theorem sub_hi {i a : Nat} (h : ¬ i < a) : i + 1 - a = i - a + 1 := Nat.succ_sub (Nat.not_lt.mp h)
theorem sub_in {i a b : Nat} (h : ¬ i < a) : i - a < b ↔ i < a + b := Nat.sub_lt_iff_lt_add' (Nat.not_lt.mp h)
/-- the i-th line, by its sort -/
theorem restW_at (W : WorldD) {i : Nat} (hi : i < (restW W).length) :
    (∃ s, kindW W i = 0 ∧ s ∈ W.sats ∧ (restW W)[i]? = some (wSat s) ∧ W.sats[i]? = some s ∧ preS W (i + 1) = preS W i ++ [s] ∧ preT W (i + 1) = preT W i ∧ preR W (i + 1) = preR W i ∧ preP W (i + 1) = preP W i) ∨
    (∃ s, kindW W i = 1 ∧ s ∈ W.stas ∧ (restW W)[i]? = some (wSta s) ∧ W.stas[i - W.sats.length]? = some s ∧ preS W (i + 1) = preS W i ∧ preT W (i + 1) = preT W i ++ [s] ∧ preR W (i + 1) = preR W i ∧ preP W (i + 1) = preP W i ∧ preS W i = W.sats) ∨
    (∃ s, kindW W i = 2 ∧ s ∈ W.recs ∧ (restW W)[i]? = some (wRec W s) ∧ W.recs[i - W.sats.length - W.stas.length]? = some s ∧ preS W (i + 1) = preS W i ∧ preT W (i + 1) = preT W i ∧ preR W (i + 1) = preR W i ++ [s] ∧ preP W (i + 1) = preP W i ∧ preS W i = W.sats ∧ preT W i = W.stas) ∨
    (∃ s, kindW W i = 3 ∧ s ∈ W.pass ∧ (restW W)[i]? = some (wPas W s) ∧ W.pass[i - W.sats.length - W.stas.length - W.recs.length]? = some s ∧ preS W (i + 1) = preS W i ∧ preT W (i + 1) = preT W i ∧ preR W (i + 1) = preR W i ∧ preP W (i + 1) = preP W i ++ [s] ∧ preS W i = W.sats ∧ preT W i = W.stas) := by
  rw [restW_len] at hi
  by_cases c0 : i < W.sats.length
  · have e : W.sats[i]? = some W.sats[i] := List.getElem?_eq_getElem c0
    refine .inl ⟨W.sats[i], by unfold kindW; rw [if_pos c0], List.getElem_mem c0, ?_, e, take_snoc e, ?_, ?_, ?_⟩
    · unfold restW
      rw [List.append_assoc, List.append_assoc, List.getElem?_append_left (by rw [List.length_map]; exact c0), List.getElem?_map, e]
      rfl
    · unfold preT; rw [sub_lo c0]
    · unfold preR; rw [sub_lo c0]
    · unfold preP; rw [sub_lo c0]
  have aS : ∀ j, W.sats.length ≤ j → preS W j = W.sats := fun j hj => List.take_of_length_le hj
  have d0 := Nat.not_lt.mp c0
  have e0 := Nat.le_succ_of_le d0
  by_cases c1 : i < W.sats.length + W.stas.length
  · have hj : i - W.sats.length < W.stas.length := (sub_in c0).mpr c1
    have e : W.stas[i - W.sats.length]? = some W.stas[i - W.sats.length] := List.getElem?_eq_getElem hj
    refine .inr (.inl ⟨_, by unfold kindW; rw [if_neg c0, if_pos c1], List.getElem_mem hj, ?_, e, by rw [aS _ e0, aS _ d0], ?_, ?_, ?_, aS _ d0⟩)
    · unfold restW
      rw [List.append_assoc, List.append_assoc, List.getElem?_append_right (by rw [List.length_map]; exact d0), List.length_map, List.getElem?_append_left (by rw [List.length_map]; exact hj), List.getElem?_map, e]
      rfl
    · unfold preT; rw [sub_hi c0]; exact take_snoc e
    · unfold preR; rw [sub_hi c0, sub_lo hj]
    · unfold preP; rw [sub_hi c0, sub_lo hj]
  have aT : ∀ j, W.sats.length + W.stas.length ≤ j → preT W j = W.stas := fun j hj => List.take_of_length_le (Nat.le_sub_of_add_le' hj)
  have n1 : ¬ i - W.sats.length < W.stas.length := fun z => c1 ((sub_in c0).mp z)
  have d1 := Nat.not_lt.mp c1
  have e1 := Nat.le_succ_of_le d1
  have d2 := Nat.not_lt.mp n1
  by_cases c2 : i < W.sats.length + W.stas.length + W.recs.length
  · have hj : i - W.sats.length - W.stas.length < W.recs.length := (sub_in n1).mpr ((sub_in c0).mpr (by rw [← Nat.add_assoc]; exact c2))
    have e : W.recs[i - W.sats.length - W.stas.length]? = some W.recs[i - W.sats.length - W.stas.length] := List.getElem?_eq_getElem hj
    refine .inr (.inr (.inl ⟨_, by unfold kindW; rw [if_neg c0, if_neg c1, if_pos c2], List.getElem_mem hj, ?_, e, by rw [aS _ e0, aS _ d0], by rw [aT _ e1, aT _ d1], ?_, ?_, aS _ d0, aT _ d1⟩))
    · unfold restW
      rw [List.append_assoc, List.append_assoc, List.getElem?_append_right (by rw [List.length_map]; exact d0), List.length_map, List.getElem?_append_right (by rw [List.length_map]; exact d2), List.length_map, List.getElem?_append_left (by rw [List.length_map]; exact hj), List.getElem?_map, e]
      rfl
    · unfold preR; rw [sub_hi c0, sub_hi n1]; exact take_snoc e
    · unfold preP; rw [sub_hi c0, sub_hi n1, sub_lo hj]
  have n2 : ¬ i - W.sats.length - W.stas.length < W.recs.length := fun z => c2 (by rw [Nat.add_assoc]; exact (sub_in c0).mp ((sub_in n1).mp z))
  have d3 := Nat.not_lt.mp n2
  have d4 := Nat.not_lt.mp c2
  have e4 := Nat.le_succ_of_le d4
  have hj : i - W.sats.length - W.stas.length - W.recs.length < W.pass.length := (sub_in n2).mpr ((sub_in n1).mpr ((sub_in c0).mpr (by rw [← Nat.add_assoc, ← Nat.add_assoc]; exact hi)))
  have e : W.pass[i - W.sats.length - W.stas.length - W.recs.length]? = some W.pass[i - W.sats.length - W.stas.length - W.recs.length] := List.getElem?_eq_getElem hj
  have aR : ∀ j, W.sats.length + W.stas.length + W.recs.length ≤ j → preR W j = W.recs := fun j hj => List.take_of_length_le (Nat.le_sub_of_add_le' (Nat.le_sub_of_add_le' (by rw [← Nat.add_assoc]; exact hj)))
  refine .inr (.inr (.inr ⟨_, by unfold kindW; rw [if_neg c0, if_neg c1, if_neg c2], List.getElem_mem hj, ?_, e, by rw [aS _ e0, aS _ d0], by rw [aT _ e1, aT _ d1], by rw [aR _ e4, aR _ d4], ?_, aS _ d0, aT _ d1⟩))
  · unfold restW
    rw [List.append_assoc, List.append_assoc, List.getElem?_append_right (by rw [List.length_map]; exact d0), List.length_map, List.getElem?_append_right (by rw [List.length_map]; exact d2), List.length_map, List.getElem?_append_right (by rw [List.length_map]; exact d3), List.length_map, List.getElem?_map, e]
    rfl
  · unfold preP; rw [sub_hi c0, sub_hi n1, sub_hi n2]; exact take_snoc e
theorem kindW_mono (W : WorldD) (i : Nat) : kindW W i ≤ kindW W (i + 1) := by
  unfold kindW
  by_cases c0 : i < W.sats.length
  · rw [if_pos c0]; exact Nat.zero_le _
  rw [if_neg c0, if_neg (show ¬ i + 1 < W.sats.length by omega)]
  by_cases c1 : i < W.sats.length + W.stas.length
  · rw [if_pos c1]
    split
    · exact Nat.le_refl _
    · split <;> omega
  rw [if_neg c1, if_neg (show ¬ i + 1 < W.sats.length + W.stas.length by omega)]
  by_cases c2 : i < W.sats.length + W.stas.length + W.recs.length
  · rw [if_pos c2]
    split <;> omega
  · rw [if_neg c2, if_neg (show ¬ i + 1 < W.sats.length + W.stas.length + W.recs.length by omega)]
    exact Nat.le_refl _
/-- a name is not among those ahead of it -/
theorem fresh_name {α : Type} {f : α → Str} {l : List α} {i : Nat} {s : α} (hd : (l.map f).Nodup) (h : l[i]? = some s) : f s ∉ (l.take i).map f := fun z => by
  obtain ⟨t, ht, e⟩ := List.mem_map.mp z
  obtain ⟨j, hj, ej⟩ := List.mem_iff_getElem.mp ht
  rw [List.getElem_take] at ej
  rw [List.length_take] at hj
  obtain ⟨hi, es⟩ := List.getElem?_eq_some_iff.mp h
  have h1 : (l.map f)[j]'(by rw [List.length_map]; omega) = (l.map f)[i]'(by rw [List.length_map]; exact hi) := by
    rw [List.getElem_map, List.getElem_map, ej, es]
    exact e
  have := (List.getElem_inj hd).mp h1
  omega
def sortsL : List Str := ["satellite", "station", "recording", "pass"]
section
variable {P : Program} {w : World} {K : PySem.W.Frag} {mg : Str → Option Value} {base : Heap} {CL CS CT CR CP CW aS aR fS fT fR fP : Addr}
def mostK : List Int := [3, 3, 10, 10]
def spMost : Sp := fun vs H Q _ => ∃ (i : Nat) (m : Int), vs = [.int (i : Int)] ∧ mostK[i]? = some m ∧ ∀ H', Same H H' → Q (.int m) H'
theorem d_most_things (T : TxtW K mg CL CS CT CR CP CW aS aR fS fT fR fP) (A : At K mg "most_things" s_most_things ["sort"]) : DefOk P w K mg base CX0 1 "most_things" ["sort"] spMost := by
  have B := T.L.B
  refine A.ok sc_most_things (fun vs H Q E h => ?_) (fun f cdv A outer s H vs Q E hr h => ?_)
  · obtain ⟨i, m, rfl, _⟩ := h
    rfl
  obtain ⟨i, m, rfl, hi, q⟩ := h
  refine ⟨_, pss_cons (ps_set (i := 1) sc_most_things.nd rfl (Or.inl rfl) (pe_tup (pa_cons (ClX.pe_cval (pe_ga T.c_World.gC) rfl) (pa_cons (ClX.pe_cval (pe_ga T.c_World.gC) rfl) (pa_cons (ClX.pe_cval (pe_ga T.c_World.gC) rfl) (pa_cons (ClX.pe_cval (pe_ga T.c_World.gC) rfl) pa_nil))))))
  (pss_one (ps_ret (pe_ix ix_tup (pv 1) (pv 0) (fun _ _ => rfl))))
    , ?_⟩
  obtain ⟨k1, h1⟩ := T.v_MOST_SATELLITES
  obtain ⟨k2, h2⟩ := T.v_MOST_STATIONS
  obtain ⟨k3, h3⟩ := T.v_MOST_RECORDINGS
  obtain ⟨k4, h4⟩ := T.v_MOST_PASSES
  refine ⟨CW, _, _, _, rfl, T.rdW, h1, CW, _, _, _, rfl, T.rdW, h2, CW, _, _, _, rfl, T.rdW, h3, CW, _, _, _, rfl, T.rdW, h4, (by show 4 ≤ sizeLine; decide), fun p hp => ?_⟩
  refine ⟨_, rfl, _, rfl, p, _, _, .int m, rfl, rfl, SqT.of upd_same, atI_nat ?_, q _ (same_new hp _)⟩
  have e : ([V.int 3, V.int 3, V.int 10, V.int 10] : List V) = mostK.map V.int := rfl
  rw [e, List.getElem?_map, hi]
  rfl
def spSort (K : PySem.W.Frag) (CL : Addr) : Sp := fun vs H Q _ => ∃ (a : Addr) (ws : List Str) (ahead : Int) (th : Addr) (ls : List Addr) (l : Addr) (xs : List V) (i : Nat) (u : Str) (m : Int), vs = [.ref a, .int ahead, .ref th] ∧ LnAt CL H a ws 0 ∧ ws[0]? = some u ∧ sortsL[i]? = some u ∧ ahead ≤ (i : Int) ∧
  SqT K H th (ls.map V.ref) ∧ ls[i]? = some l ∧ SqL K H l xs ∧ mostK[i]? = some m ∧ (xs.length : Int) < m ∧ ∀ H', SameX a H H' → LnAt CL H' a ws 1 → Q (.int (i : Int)) H'
theorem sorts_first {u : Str} : ∀ {i : Nat}, sortsL[i]? = some u → ∀ m, m < i → sortsL[m]? ≠ some u := by
  have nd : sortsL.Nodup := by decide +kernel
  intro i h m hm z
  obtain ⟨h1, e1⟩ := List.getElem?_eq_some_iff.mp h
  obtain ⟨h2, e2⟩ := List.getElem?_eq_some_iff.mp z
  have := (List.getElem_inj nd).mp (e1.trans e2.symm)
  omega
theorem d_read_sort (T : TxtW K mg CL CS CT CR CP CW aS aR fS fT fR fP) (D_Line_due : MDef P w K mg base CX0 2 CL "due" ["self"] [] (spDue CL)) (D_Line_step : MDef P w K mg base CX0 1 CL "step" ["self"] [] (spStep CL)) (D_most_things : DefOk P w K mg base CX0 1 "most_things" ["sort"] spMost)
    (A : At K mg "read_sort" s_read_sort ["line", "ahead", "things"]) : DefOk P w K mg base CX0 3 "read_sort" ["line", "ahead", "things"] (spSort K CL) := by
  have B := T.L.B
  refine A.ok sc_read_sort (fun vs H Q E h => ?_) (fun f cdv A outer s H vs Q E hr h => ?_)
  · obtain ⟨a, ws, ahead, th, ls, l, xs, i, u, m, rfl, _⟩ := h
    rfl
  obtain ⟨a, ws, ahead, th, ls, l, xs, i, u, m, rfl, hL, hu, hi, hah, h1, h2, h3, h4, h5, q⟩ := h
  refine ⟨_, pss_cons (ps_set (i := 3) sc_read_sort.nd rfl (Or.inl rfl) (pe_m0 D_Line_due T.c_Line.cl (hr.mono (by omega)) pass0 (pv 0)))
  (pss_cons (ps_if (pt_cmpR op_notIn_seq (pv 3) (pe_ga T.g_SORTS) (by rfl))
      (pss_one (ps_never))
      (pss_nil))
  (pss_cons (ps_set (i := 4) sc_read_sort.nd rfl (Or.inl rfl) (pe_bm PySem.F.plainAttrs_tuple PySem.F.slot_tuple_index PySem.F.type_tuple_index mt_tup_index (pe_ga T.g_SORTS) (pa_cons (pv 3) pa_nil)))
  (pss_cons (ps_if (pt_cmpR op_lt (pv 4) (pv 1) (nomark _))
      (pss_one (ps_never))
      (pss_nil))
  (pss_cons (ps_if (pt_cmpR op_eq (pe_callB (call_len_seq) (by rfl) B.len (by decide +kernel) (pa_cons (pe_ix ix_tup (pv 2) (pv 4) (fun _ _ => rfl)) pa_nil)) (pe_f D_most_things (hr.mono (by omega)) pass0 (pa_cons (pv 4) pa_nil)) (nomark _))
      (pss_one (ps_never))
      (pss_nil))
  (pss_cons (ps_expr (pe_m0 D_Line_step T.c_Line.cl (hr.mono (by omega)) pass0 (pv 0)))
  (pss_one (ps_ret (pv 4))))))))
    , ?_⟩
  have hm : u ∈ sortsL := List.mem_of_getElem? hi
  have hr' : 0 < ws.length := (List.getElem?_eq_some_iff.mp hu).1
  obtain ⟨dx, fs, g0, z0⟩ := LnAt.no hL (m := "due") (by decide +kernel) (by decide +kernel) (by decide +kernel) (by decide +kernel)
  refine ⟨_, rfl, a, _, _, rfl, g0, z0, a, ws, 0, u, rfl, hL, hu, ?_⟩
  refine ⟨_, rfl, aS, _, rfl, .inr (T.t_SORTS H), rfl, flat_strs, _, rfl, iteF' (by rw [show (([("satellite" : Str), "station", "recording", "pass"]).map V.str) = sortsL.map V.str from rfl, inV_str, decide_eq_true hm]; rfl) ?_⟩
  obtain ⟨o, ho1, ho2, ho3⟩ := T.k_SORTS
  refine ⟨.inr (.inl ⟨rfl, o, ho1, ho2, ho3⟩), _, rfl, aS, sortsL, u, i, rfl, rfl, T.t_SORTS H, hi, sorts_first hi, ?_⟩
  refine ⟨_, rfl, _, rfl, _, _, rfl, rfl, _, rfl, iteF' (decide_eq_false (by omega)) ?_⟩
  refine ⟨_, rfl, _, rfl, th, _, _, .ref l, rfl, rfl, h1, atI_nat (by rw [List.getElem?_map, h2]; rfl), l, xs, rfl, .inl h3, _, rfl, i, m, rfl, h4, fun H1 s1 => ?_⟩
  refine ⟨rfl, _, rfl, iteF' (decide_eq_false fun z => by have := V.int.inj z; omega) ?_⟩
  obtain ⟨dx, fs, g1, z1⟩ := LnAt.no (hL.same s1) (m := "step") (by decide +kernel) (by decide +kernel) (by decide +kernel) (by decide +kernel)
  refine ⟨_, rfl, a, _, _, rfl, g1, z1, a, ws, 0, rfl, hL.same s1, hr', fun H2 s2 L2 => ?_⟩
  exact ⟨_, rfl, q H2 ((SameX.of s1).trans s2) L2⟩
end
end DP
namespace DP
open PySem PySem.Spec PyProof.Rows L2
def SameA (as : List Addr) (H H' : Hp) : Prop := ∀ b o, b ∉ as → H b = some o → H' b = some o
theorem SameA.trans {as : List Addr} {H H1 H2 : Hp} (x : SameA as H H1) (y : SameA as H1 H2) : SameA as H H2 := fun b o n h => y b o n (x b o n h)
theorem SameA.of {as : List Addr} {H H' : Hp} (s : Same H H') : SameA as H H' := fun b o _ h => s b o h
theorem SameA.ofX {as : List Addr} {a : Addr} {H H' : Hp} (s : SameX a H H') (h : a ∈ as) : SameA as H H' := fun b o n q => s b o (fun z => n (z ▸ h)) q
theorem SameA.new {as : List Addr} {H H' : Hp} {L : Addr} {o : HO} (hL : H L = none) (s : SameA as H H') : SameA as H (upd H' L o) := fun b u n h => by
  rw [upd_ne (ne_of_none h hL)]
  exact s b u n h
theorem at_ne {K : PySem.W.Frag} {mg : Str → Option Value} {x y : Str} {st st' : Stmt} {ps ps' : List Str} {f g : Addr} (A : At K mg x st ps) (B : At K mg y st' ps') (hf : mg x = some (.ref f)) (hg : mg y = some (.ref g)) (n : x ≠ y) : f ≠ g := fun z => by
  obtain ⟨f', fd, F, e1, _⟩ := A.ex
  obtain ⟨g', gd, G, e2, _⟩ := B.ex
  rw [hf] at e1
  rw [hg] at e2
  cases e1
  cases e2
  obtain ⟨_, _, _, _, _, _, _, _, _, e3, l1, _⟩ := F.ex
  obtain ⟨_, _, _, _, _, _, _, _, _, e4, l2, _⟩ := G.ex
  rw [← z, l1] at l2
  have e : fd = gd := by
    injection Option.some.inj l2 with _ _ h _
    injection h
  have e5 := congrArg FuncData.name (e3.symm.trans (e.trans e4))
  exact n e5
section
variable {P : Program} {w : World} {K : PySem.W.Frag} {mg : Str → Option Value} {base : Heap} {CL CS CT CR CP CW aS aR fS fT fR fP : Addr}
def rdS (K : PySem.W.Frag) (CL CS CT CR CP fS fT fR fP : Addr) (f : Addr) : Option Sp := if f = fS then some (spRdSat K CL CS) else if f = fT then some (spRdSta K CL CT) else if f = fR then some (spRdRec K CL CR) else if f = fP then some (spRdPas K CL CP) else none
theorem held_of {x : Str} {ps : List Str} {sp : Sp} {k : Nat} {f : Addr} (D : DefOk P w K mg base CX0 k x ps sp) (h : mg x = some (.ref f)) : Held P w K mg base k f sp := by
  obtain ⟨g, fd, G, m, kp, b, _⟩ := D.ex
  rw [h] at m
  cases m
  exact ⟨fd, ps, G, kp, b⟩
def spThings (K : PySem.W.Frag) (CL CS CT CR CP : Addr) : Sp := fun vs H Q _ => ∃ (p : Addr) (as : List Addr) (W : WorldD), vs = [.ref p, .int W.horizon] ∧ SqL K H p (as.map V.ref) ∧ as.Nodup ∧ WorldOk W ∧ Paired (fun a l => LnAt CL H a l 0) as (restW W) ∧
  ∀ th l0 l1 l2 l3 H', SameA as H H' → Thg K CS CT CR CP H' th l0 l1 l2 l3 W.sats W.stas W.recs W.pass → Q (.ref th) H'
set_option maxHeartbeats 8000000 in
theorem d_read_things (T : TxtW K mg CL CS CT CR CP CW aS aR fS fT fR fP) (D_read_sort : DefOk P w K mg base CX0 3 "read_sort" ["line", "ahead", "things"] (spSort K CL))
    (D1 : DefOk P w K mg base CX0 5 "read_satellite" ["line", "horizon", "things"] (spRdSat K CL CS)) (D2 : DefOk P w K mg base CX0 5 "read_station" ["line", "_", "things"] (spRdSta K CL CT))
    (D3 : DefOk P w K mg base CX0 5 "read_recording" ["line", "horizon", "things"] (spRdRec K CL CR)) (D4 : DefOk P w K mg base CX0 5 "read_pass" ["line", "horizon", "things"] (spRdPas K CL CP))
    (n1 : fT ≠ fS) (n2 : fR ≠ fS) (n3 : fR ≠ fT) (n4 : fP ≠ fS) (n5 : fP ≠ fT) (n6 : fP ≠ fR)
    (D_Line_finish : MDef P w K mg base CX0 3 CL "finish" ["self"] [] (spFinish CL)) (A : At K mg "read_things" s_read_things ["lines", "horizon"]) : DefOk P w K mg base CX0 6 "read_things" ["lines", "horizon"] (spThings K CL CS CT CR CP) := by
  have B := T.L.B
  have HA : ∀ f sp, rdS K CL CS CT CR CP fS fT fR fP f = some sp → Held P w K mg base 5 f sp := fun f sp h => by
    unfold rdS at h
    by_cases c1 : f = fS
    · rw [if_pos c1] at h
      cases h
      rw [c1]
      exact held_of D1 T.r_satellite
    rw [if_neg c1] at h
    by_cases c2 : f = fT
    · rw [if_pos c2] at h
      cases h
      rw [c2]
      exact held_of D2 T.r_station
    rw [if_neg c2] at h
    by_cases c3 : f = fR
    · rw [if_pos c3] at h
      cases h
      rw [c3]
      exact held_of D3 T.r_recording
    rw [if_neg c3] at h
    by_cases c4 : f = fP
    · rw [if_pos c4] at h
      cases h
      rw [c4]
      exact held_of D4 T.r_pass
    rw [if_neg c4] at h
    cases h
  have S0 : rdS K CL CS CT CR CP fS fT fR fP fS = some (spRdSat K CL CS) := by unfold rdS; rw [if_pos rfl]
  have S1 : rdS K CL CS CT CR CP fS fT fR fP fT = some (spRdSta K CL CT) := by unfold rdS; rw [if_neg n1, if_pos rfl]
  have S2 : rdS K CL CS CT CR CP fS fT fR fP fR = some (spRdRec K CL CR) := by unfold rdS; rw [if_neg n2, if_neg n3, if_pos rfl]
  have S3 : rdS K CL CS CT CR CP fS fT fR fP fP = some (spRdPas K CL CP) := by unfold rdS; rw [if_neg n4, if_neg n5, if_neg n6, if_pos rfl]
  refine A.ok sc_read_things (fun vs H Q E h => ?_) (fun f cdv A outer s H vs Q E hr h => ?_)
  · obtain ⟨p, as, W, rfl, _⟩ := h
    rfl
  obtain ⟨p, as, W, rfl, hp, hnd, wok, hpr, q⟩ := h
  have hlen := paired_len hpr
  refine ⟨_, pss_cons (ps_set (i := 2) sc_read_things.nd rfl (Or.inl rfl) (pe_tup (pa_cons (pe_lst pa_nil) (pa_cons (pe_lst pa_nil) (pa_cons (pe_lst pa_nil) (pa_cons (pe_lst pa_nil) pa_nil))))))
  (pss_cons (ps_set (i := 3) sc_read_things.nd rfl (Or.inl rfl) pe_int)
  (pss_cons (ps_for PassesOwn.never rfl (pi_list (pv 0)) (pg_name (i := 4) sc_read_things.nd rfl (Or.inl rfl))
      (pss_cons (ps_set (i := 3) sc_read_things.nd rfl (Or.inl rfl) (pe_f D_read_sort (hr.mono (by omega)) pass0 (pa_cons (pv 4) (pa_cons (pv 3) (pa_cons (pv 2) pa_nil)))))
      (pss_cons (ps_set (i := 5) sc_read_things.nd rfl (Or.inl rfl) (pe_ix ix_tup (pe_ga T.g_READERS) (pv 3) (fun _ _ => rfl)))
      (pss_cons (ps_expr (pe_bm PySem.F.plainAttrs_list PySem.F.slot_list_append PySem.F.type_list_append mt_append (pe_ix ix_tup (pv 2) (pv 3) (fun _ _ => rfl)) (pa_cons (pe_callA (i := 5) (S := rdS K CL CS CT CR CP fS fT fR fP) HA (hr.mono (by omega)) rfl (Or.inl rfl) (pa_cons (pv 4) (pa_cons (pv 1) (pa_cons (pv 2) pa_nil)))) pa_nil)))
      (pss_one (ps_expr (pe_m0 D_Line_finish T.c_Line.cl (hr.mono (by omega)) pass0 (pv 4))))))))
  (pss_one (ps_ret (pv 2)))))
    , ?_⟩
  refine ⟨Nat.zero_le _, fun l0 h0 => ⟨Nat.zero_le _, fun l1 h1 => ⟨Nat.zero_le _, fun l2 h2 => ⟨Nat.zero_le _, fun l3 h3 => ⟨(by show 4 ≤ sizeLine; decide), fun th hth => ?_⟩⟩⟩⟩⟩
  have d01 : l0 ≠ l1 := fun z => by rw [← z, upd_same] at h1; cases h1
  have h1' : H l1 = none := by rw [upd_ne d01.symm] at h1; exact h1
  have d12 : l1 ≠ l2 := fun z => by rw [← z, upd_same] at h2; cases h2
  have d02 : l0 ≠ l2 := fun z => by rw [← z, upd_ne d01, upd_same] at h2; cases h2
  have h2' : H l2 = none := by rw [upd_ne d12.symm, upd_ne d02.symm] at h2; exact h2
  have d23 : l2 ≠ l3 := fun z => by rw [← z, upd_same] at h3; cases h3
  have d13 : l1 ≠ l3 := fun z => by rw [← z, upd_ne d12, upd_same] at h3; cases h3
  have d03 : l0 ≠ l3 := fun z => by rw [← z, upd_ne d02, upd_ne d01, upd_same] at h3; cases h3
  have h3' : H l3 = none := by rw [upd_ne d23.symm, upd_ne d13.symm, upd_ne d03.symm] at h3; exact h3
  have t3 : l3 ≠ th := fun z => by rw [← z, upd_same] at hth; cases hth
  have t2 : l2 ≠ th := fun z => by rw [← z, upd_ne d23, upd_same] at hth; cases hth
  have t1 : l1 ≠ th := fun z => by rw [← z, upd_ne d13, upd_ne d12, upd_same] at hth; cases hth
  have t0 : l0 ≠ th := fun z => by rw [← z, upd_ne d03, upd_ne d02, upd_ne d01, upd_same] at hth; cases hth
  have hth' : H th = none := by rw [upd_ne t3.symm, upd_ne t2.symm, upd_ne t1.symm, upd_ne t0.symm] at hth; exact hth
  have sS : Same H (upd (upd (upd (upd (upd H l0 (.lst [])) l1 (.lst [])) l2 (.lst [])) l3 (.lst [])) th (.tup [.ref l0, .ref l1, .ref l2, .ref l3])) := same_at hth' (same_at h3' (same_at h2' (same_at h1' (same_new h0 _) _) _) _) _
  refine ⟨_, rfl, p, rfl, ⟨_, sS.seq hp⟩, for_list (K := K) (a := p) (xs := as.map V.ref) (fun i σ H' => ∃ (k : Int) (y4 y5 : Option V), σ = [some (.ref p), some (.int W.horizon), some (.ref th), some (.int k), y4, y5] ∧ k ≤ (kindW W i : Int) ∧
      Thg K CS CT CR CP H' th l0 l1 l2 l3 (preS W i) (preT W i) (preR W i) (preP W i) ∧ (∀ j a l, i ≤ j → as[j]? = some a → (restW W)[j]? = some l → LnAt CL H' a l 0) ∧ SameA as H H') ⟨0, none, none, rfl, by omega, ?_, ?_, SameA.of sS⟩ (fun i σ H' _ hI => ?_) (fun i x σ H1 hx hI => ?_) (fun σ H1 hI => ?_)⟩
  · have e0 : preS W 0 = [] := rfl
    have e1 : preT W 0 = [] := by unfold preT; rw [Nat.zero_sub]; rfl
    have e2 : preR W 0 = [] := by unfold preR; rw [Nat.zero_sub, Nat.zero_sub]; rfl
    have e3 : preP W 0 = [] := by unfold preP; rw [Nat.zero_sub, Nat.zero_sub, Nat.zero_sub]; rfl
    rw [e0, e1, e2, e3]
    exact ⟨upd_same, d01, d02, d03, d12, d13, d23, ⟨[], by rw [upd_ne t0, upd_ne d03, upd_ne d02, upd_ne d01, upd_same], .nil⟩, ⟨[], by rw [upd_ne t1, upd_ne d13, upd_ne d12, upd_same], .nil⟩, ⟨[], by rw [upd_ne t2, upd_ne d23, upd_same], .nil⟩, ⟨[], by rw [upd_ne t3, upd_same], .nil⟩⟩
  · intro j a l _ ha hl
    obtain ⟨l', hl', hL⟩ := paired_at hpr ha
    rw [hl] at hl'
    cases hl'
    exact hL.same sS
  · obtain ⟨k, y4, y5, rfl, _, _, _, hs⟩ := hI
    rcases hp with (hp | ⟨o, hp⟩) | hp
    · exact .inl (.inl (hs _ _ (fun z => by
        obtain ⟨j, hj, ej⟩ := List.mem_iff_getElem.mp z
        obtain ⟨l, _, hL⟩ := paired_at hpr (List.getElem?_eq_getElem hj)
        rw [ej] at hL
        obtain ⟨dx, n, wl, c, g1, g2⟩ := hL.ex
        rw [hp] at g1
        cases g1) hp))
    · exact .inl (.inr ⟨o, hs _ _ (fun z => by
        obtain ⟨j, hj, ej⟩ := List.mem_iff_getElem.mp z
        obtain ⟨l, _, hL⟩ := paired_at hpr (List.getElem?_eq_getElem hj)
        rw [ej] at hL
        obtain ⟨dx, n, wl, c, g1, g2⟩ := hL.ex
        rw [hp] at g1
        cases g1) hp⟩)
    · exact .inr hp
  · obtain ⟨k, y4, y5, rfl, hk, hT, hLs, hs⟩ := hI
    rw [List.getElem?_map] at hx
    cases ha : as[i]? with
    | none => rw [ha] at hx; cases hx
    | some a =>
    rw [ha] at hx
    have ex : V.ref a = x := Option.some.inj hx
    subst ex
    have hmem : a ∈ as := List.mem_of_getElem? ha
    have hi : i < (restW W).length := by
      rw [← hlen]
      exact (List.getElem?_eq_some_iff.mp ha).1
    have far : ∀ j b, i + 1 ≤ j → as[j]? = some b → b ≠ a := fun j b hj hb z => by
      subst z
      obtain ⟨q1, e1⟩ := List.getElem?_eq_some_iff.mp ha
      obtain ⟨q2, e2⟩ := List.getElem?_eq_some_iff.mp hb
      have := (List.getElem_inj hnd).mp (e1.trans e2.symm)
      omega
    have neR : ∀ j l, (restW W)[j]? = some l → l ≠ [] := fun j l hl => by
      have hm : l ∈ restW W := List.mem_of_getElem? hl
      exact (linesW_ok wok l (List.mem_cons_of_mem _ hm)).1
    have nS := wok.nSats
    have nT := wok.nStas
    have nR := wok.nRecs
    have nP := wok.nPass
    have lS : (preS W i).length ≤ W.sats.length := by unfold preS; rw [List.length_take]; omega
    have lT : (preT W i).length ≤ W.stas.length := by unfold preT; rw [List.length_take]; omega
    have lR : (preR W i).length ≤ W.recs.length := by unfold preR; rw [List.length_take]; omega
    have lP : (preP W i).length ≤ W.pass.length := by unfold preP; rw [List.length_take]; omega
    have km := kindW_mono W i
    rcases restW_at W hi with ⟨s, hkd, hsm, hw, hat, e1, e2, e3, e4⟩ | ⟨s, hkd, hsm, hw, hat, e1, e2, e3, e4, eS⟩ | ⟨s, hkd, hsm, hw, hat, e1, e2, e3, e4, eS, eT⟩ | ⟨s, hkd, hsm, hw, hat, e1, e2, e3, e4, eS, eT⟩
    · have hL := hLs i a _ (Nat.le_refl _) ha hw
      obtain ⟨xs, ax, bx⟩ := hT.sats
      have lx := paired_len bx
      have hlt : (preS W i).length < W.sats.length := by
        have z := (List.getElem?_eq_some_iff.mp hat).1
        unfold preS
        rw [List.length_take]
        omega
      refine ⟨_, rfl, _, rfl, _, rfl, a, _, k, th, [l0, l1, l2, l3], l0, xs, 0, "satellite", 3, rfl, hL, rfl, rfl, by omega, hT.list, rfl, SqL.of ax, rfl, by omega, fun H2 s1 L1 => ?_⟩
      have hT1 := hT.sx hL s1
      refine ⟨_, rfl, aR, _, _, .ref fS, rfl, rfl, T.t_READERS _, atI_nat (j := 0) rfl, ?_⟩
      obtain ⟨dx0, n0, wl0, c0, g1, g2⟩ := hL.ex
      have ax1 : H2 l0 = some (.lst xs) := s1 _ _ (ne_of ax g1 (fun z => nomatch z)) ax
      refine ⟨_, rfl, _, rfl, th, _, _, .ref l0, rfl, rfl, hT1.list, atI_nat (j := 0) rfl, .inl ⟨rfl, _, SqL.of ax1⟩, fS, _, rfl, S0, _, rfl, _, rfl, _, rfl, ?_⟩
      refine ⟨a, W.horizon, th, s, _, rfl, L1, (hT.n0 T (by omega)).sameX hL s1, (fresh_name (f := (·.name)) wok.dSats hat), wok.sats s hsm, wok.horizon.1, wok.horizon.2, fun b H3 nb s2 L2 o2 => ?_⟩
      have hT2 := hT1.sx L1 s2
      obtain ⟨dx1, n1', wl1, c1, g3, g4⟩ := L1.ex
      have ax2 : H3 l0 = some (.lst xs) := s2 _ _ (ne_of ax1 g3 (fun z => nomatch z)) ax1
      refine ⟨l0, xs, .ref b, rfl, rfl, ax2, small1000 (by omega), ?_⟩
      have rf := refs_sat bx
      have L3 := L2.up (o := .lst (xs ++ [.ref b])) (neR i _ hw) ax2 rf
      obtain ⟨dx2, fs2, g5, z5⟩ := LnAt.no L3 (m := "finish") (by decide +kernel) (by decide +kernel) (by decide +kernel) (by decide +kernel)
      refine ⟨_, rfl, a, _, _, rfl, g5, z5, a, _, rfl, L3, ?_⟩
      refine ⟨(0 : Int), some (.ref a), some (.ref fS), rfl, by omega, ?_, fun j d l hj hd hl => ?_, SameA.new h0 ((hs.trans (SameA.ofX s1 hmem)).trans (SameA.ofX s2 hmem))⟩
      · rw [e1, e2, e3, e4]
        exact hT2.push0 ax2 o2
      · have nd := far j d hj hd
        exact (((hLs j d l (by omega) hd hl).sx hL nd s1).sx L1 nd s2).up (neR j l hl) ax2 rf
    · have hL := hLs i a _ (Nat.le_refl _) ha hw
      obtain ⟨xs, ax, bx⟩ := hT.stas
      have lx := paired_len bx
      have hlt : (preT W i).length < W.stas.length := by
        have z := (List.getElem?_eq_some_iff.mp hat).1
        unfold preT
        rw [List.length_take]
        omega
      refine ⟨_, rfl, _, rfl, _, rfl, a, _, k, th, [l0, l1, l2, l3], l1, xs, 1, "station", 3, rfl, hL, rfl, rfl, by omega, hT.list, rfl, SqL.of ax, rfl, by omega, fun H2 s1 L1 => ?_⟩
      have hT1 := hT.sx hL s1
      refine ⟨_, rfl, aR, _, _, .ref fT, rfl, rfl, T.t_READERS _, atI_nat (j := 1) rfl, ?_⟩
      obtain ⟨dx0, n0, wl0, c0, g1, g2⟩ := hL.ex
      have ax1 : H2 l1 = some (.lst xs) := s1 _ _ (ne_of ax g1 (fun z => nomatch z)) ax
      refine ⟨_, rfl, _, rfl, th, _, _, .ref l1, rfl, rfl, hT1.list, atI_nat (j := 1) rfl, .inl ⟨rfl, _, SqL.of ax1⟩, fT, _, rfl, S1, _, rfl, _, rfl, _, rfl, ?_⟩
      refine ⟨a, W.horizon, th, s, _, rfl, L1, (hT.n1 T (by omega)).sameX hL s1, (fresh_name (f := (·.name)) wok.dStas hat), wok.stas s hsm, fun b H3 nb s2 L2 o2 => ?_⟩
      have hT2 := hT1.sx L1 s2
      obtain ⟨dx1, n1', wl1, c1, g3, g4⟩ := L1.ex
      have ax2 : H3 l1 = some (.lst xs) := s2 _ _ (ne_of ax1 g3 (fun z => nomatch z)) ax1
      refine ⟨l1, xs, .ref b, rfl, rfl, ax2, small1000 (by omega), ?_⟩
      have rf := refs_sta bx
      have L3 := L2.up (o := .lst (xs ++ [.ref b])) (neR i _ hw) ax2 rf
      obtain ⟨dx2, fs2, g5, z5⟩ := LnAt.no L3 (m := "finish") (by decide +kernel) (by decide +kernel) (by decide +kernel) (by decide +kernel)
      refine ⟨_, rfl, a, _, _, rfl, g5, z5, a, _, rfl, L3, ?_⟩
      refine ⟨(1 : Int), some (.ref a), some (.ref fT), rfl, by omega, ?_, fun j d l hj hd hl => ?_, SameA.new h1' ((hs.trans (SameA.ofX s1 hmem)).trans (SameA.ofX s2 hmem))⟩
      · rw [e1, e2, e3, e4]
        exact hT2.push1 ax2 o2
      · have nd := far j d hj hd
        exact (((hLs j d l (by omega) hd hl).sx hL nd s1).sx L1 nd s2).up (neR j l hl) ax2 rf
    · have hL := hLs i a _ (Nat.le_refl _) ha hw
      obtain ⟨xs, ax, bx⟩ := hT.recs
      have lx := paired_len bx
      have hlt : (preR W i).length < W.recs.length := by
        have z := (List.getElem?_eq_some_iff.mp hat).1
        unfold preR
        rw [List.length_take]
        omega
      refine ⟨_, rfl, _, rfl, _, rfl, a, _, k, th, [l0, l1, l2, l3], l2, xs, 2, "recording", 10, rfl, hL, rfl, rfl, by omega, hT.list, rfl, SqL.of ax, rfl, by omega, fun H2 s1 L1 => ?_⟩
      have hT1 := hT.sx hL s1
      refine ⟨_, rfl, aR, _, _, .ref fR, rfl, rfl, T.t_READERS _, atI_nat (j := 2) rfl, ?_⟩
      obtain ⟨dx0, n0, wl0, c0, g1, g2⟩ := hL.ex
      have ax1 : H2 l2 = some (.lst xs) := s1 _ _ (ne_of ax g1 (fun z => nomatch z)) ax
      refine ⟨_, rfl, _, rfl, th, _, _, .ref l2, rfl, rfl, hT1.list, atI_nat (j := 2) rfl, .inl ⟨rfl, _, SqL.of ax1⟩, fR, _, rfl, S2, _, rfl, _, rfl, _, rfl, ?_⟩
      refine ⟨a, th, W, s, _, rfl, L1, (hT.n2 T (by omega)).sameX hL s1, (by rw [← eS]; exact (hT.n0 T (by omega)).sameX hL s1), (fresh_name (f := (·.name)) wok.dRecs hat), wok, wok.recs s hsm, fun b H3 nb s2 L2 o2 => ?_⟩
      have hT2 := hT1.sx L1 s2
      obtain ⟨dx1, n1', wl1, c1, g3, g4⟩ := L1.ex
      have ax2 : H3 l2 = some (.lst xs) := s2 _ _ (ne_of ax1 g3 (fun z => nomatch z)) ax1
      refine ⟨l2, xs, .ref b, rfl, rfl, ax2, small1000 (by omega), ?_⟩
      have rf := refs_rec bx
      have L3 := L2.up (o := .lst (xs ++ [.ref b])) (neR i _ hw) ax2 rf
      obtain ⟨dx2, fs2, g5, z5⟩ := LnAt.no L3 (m := "finish") (by decide +kernel) (by decide +kernel) (by decide +kernel) (by decide +kernel)
      refine ⟨_, rfl, a, _, _, rfl, g5, z5, a, _, rfl, L3, ?_⟩
      refine ⟨(2 : Int), some (.ref a), some (.ref fR), rfl, by omega, ?_, fun j d l hj hd hl => ?_, SameA.new h2' ((hs.trans (SameA.ofX s1 hmem)).trans (SameA.ofX s2 hmem))⟩
      · rw [e1, e2, e3, e4]
        exact hT2.push2 ax2 o2
      · have nd := far j d hj hd
        exact (((hLs j d l (by omega) hd hl).sx hL nd s1).sx L1 nd s2).up (neR j l hl) ax2 rf
    · have hL := hLs i a _ (Nat.le_refl _) ha hw
      obtain ⟨xs, ax, bx⟩ := hT.pass
      have lx := paired_len bx
      have hlt : (preP W i).length < W.pass.length := by
        have z := (List.getElem?_eq_some_iff.mp hat).1
        unfold preP
        rw [List.length_take]
        omega
      refine ⟨_, rfl, _, rfl, _, rfl, a, _, k, th, [l0, l1, l2, l3], l3, xs, 3, "pass", 10, rfl, hL, rfl, rfl, by omega, hT.list, rfl, SqL.of ax, rfl, by omega, fun H2 s1 L1 => ?_⟩
      have hT1 := hT.sx hL s1
      refine ⟨_, rfl, aR, _, _, .ref fP, rfl, rfl, T.t_READERS _, atI_nat (j := 3) rfl, ?_⟩
      obtain ⟨dx0, n0, wl0, c0, g1, g2⟩ := hL.ex
      have ax1 : H2 l3 = some (.lst xs) := s1 _ _ (ne_of ax g1 (fun z => nomatch z)) ax
      refine ⟨_, rfl, _, rfl, th, _, _, .ref l3, rfl, rfl, hT1.list, atI_nat (j := 3) rfl, .inl ⟨rfl, _, SqL.of ax1⟩, fP, _, rfl, S3, _, rfl, _, rfl, _, rfl, ?_⟩
      refine ⟨a, th, W, s, _, rfl, L1, (hT.n3 T (by omega)).sameX hL s1, (by rw [← eS]; exact (hT.n0 T (by omega)).sameX hL s1), (by rw [← eT]; exact (hT.n1 T (by omega)).sameX hL s1), (fresh_name (f := (·.name)) wok.dPass hat), wok, wok.pass s hsm, fun b H3 nb s2 L2 o2 => ?_⟩
      have hT2 := hT1.sx L1 s2
      obtain ⟨dx1, n1', wl1, c1, g3, g4⟩ := L1.ex
      have ax2 : H3 l3 = some (.lst xs) := s2 _ _ (ne_of ax1 g3 (fun z => nomatch z)) ax1
      refine ⟨l3, xs, .ref b, rfl, rfl, ax2, small1000 (by omega), ?_⟩
      have rf := refs_pas bx
      have L3 := L2.up (o := .lst (xs ++ [.ref b])) (neR i _ hw) ax2 rf
      obtain ⟨dx2, fs2, g5, z5⟩ := LnAt.no L3 (m := "finish") (by decide +kernel) (by decide +kernel) (by decide +kernel) (by decide +kernel)
      refine ⟨_, rfl, a, _, _, rfl, g5, z5, a, _, rfl, L3, ?_⟩
      refine ⟨(3 : Int), some (.ref a), some (.ref fP), rfl, by omega, ?_, fun j d l hj hd hl => ?_, SameA.new h3' ((hs.trans (SameA.ofX s1 hmem)).trans (SameA.ofX s2 hmem))⟩
      · rw [e1, e2, e3, e4]
        exact hT2.push3 ax2 o2
      · have nd := far j d hj hd
        exact (((hLs j d l (by omega) hd hl).sx hL nd s1).sx L1 nd s2).up (neR j l hl) ax2 rf
  · obtain ⟨k, y4, y5, rfl, hk, hT, hLs, hs⟩ := hI
    rw [List.length_map, hlen] at hT
    have f1 : preS W (restW W).length = W.sats := List.take_of_length_le (by rw [restW_len]; omega)
    have f2 : preT W (restW W).length = W.stas := List.take_of_length_le (by rw [restW_len]; omega)
    have f3 : preR W (restW W).length = W.recs := List.take_of_length_le (by rw [restW_len]; omega)
    have f4 : preP W (restW W).length = W.pass := List.take_of_length_le (by rw [restW_len]; omega)
    rw [f1, f2, f3, f4] at hT
    exact ⟨_, rfl, q th l0 l1 l2 l3 H1 hs hT⟩
end
end DP
namespace DP
open PySem PySem.Spec PyProof.Rows L2
/-- a staticmethod of a class -/
structure SMet (K : PySem.W.Frag) (C : Addr) (m : Str) (g : Addr) : Prop where
  ex : ∃ p rest, PySem.W.findCls K (.ref C) (.type "type") m = some (.get (.builtin "staticmethod.__get__") (.ref p) .none (.ref C)) ∧ PySem.W.recIn K p "staticmethod" = some (.ref g :: rest)
structure SAt (K : PySem.W.Frag) (C : Addr) (m qual : Str) (st : Stmt) (ps : List Str) : Prop where
  ex : ∃ f fd, Fun K m qual st f fd ∧ SMet K C m f ∧ Binds K fd ps []
structure SDef (P : Program) (w : World) (K : PySem.W.Frag) (mg : Str → Option Value) (base : Heap) (CX : CXT) (k : Nat) (C : Addr) (m : Str) (ps : List Str) (sp : Sp) : Prop where
  ex : ∃ f fd, FnOk P w K mg base CX k f fd ps sp ∧ SMet K C m f ∧ PySem.W.keepIn K (.ref f) = true ∧ Binds K fd ps []
def tSMeth (C : Addr) (sp : Sp) (E : XK) (ta : TE) (t : TA) : TE := fun σ H Q => ta σ H fun x H1 => x = .ref C ∧ t σ H1 fun vs H2 => sp vs H2 Q E
theorem pe_smeth {X : Cx} {CX : CXT} {k : Nat} {C : Addr} {m : Str} {ps : List Str} {sp : Sp} {E : XK} {o e : Expr} {es : List Expr} {ta : TE} {t : TA} {pos apos : Pos} {pl : Sem Bool}
    (D : SDef X.prog X.w X.K X.mg X.base CX k C m ps sp) (rd : ClX.CRead X.K C (.type "type")) (hr : Room k X.A) (hx : Passes CX X E) (he : PE X o ta) (ha : PA X (e :: es) t)
    (hst : starEach (e :: es) X.env = (false, eval e X.env) :: starEach es X.env := by rfl) (hpl : (backTo pos (starEach es X.env)).any (·.1) = false := by rfl)
    (ht : eval (.Call (.Attribute o m apos) (e :: es) [] pos) X.env = (do
      let ov ← eval o X.env
      standAt apos.atName
      let (f, first) ← holding [ov] (getMethod ov m pl)
      callWith pos f first (backTo pos (starEach (e :: es) X.env)) (backToKw pos (keywordEach [] X.env))) := by rfl) :
    PE X (.Call (.Attribute o m apos) (e :: es) [] pos) (tSMeth C sp E ta t) := by
  obtain ⟨f, fd, G, ⟨p, rest, e1, e2⟩, kp, b⟩ := D.ex
  refine ⟨fun pins s σ H Q I h => ?_⟩
  refine PySem.W.methodCall_KW (pl := pl) (thn (he.run pins s σ H _ I h) fun u s1 ⟨x, H1, I1, rx, ex, q⟩ => ?_) ht
  subst ex
  obtain rfl : u = Value.ref C := rx
  have I2 := I1.tok (s1.toks + 1)
  refine PySem.W.method_cls I1.kIn rd.ga (PySem.W.cls_bind I1.kIn rd.rd e1 (wpAny_call (PySem.W.sm_get (s := { s1 with toks := s1.toks + 1 }) I2.kIn e2 (PySem.W.handed_on (handed_of (v := .ref f) rfl) ?_))))
  refine PySem.W.callWith_K (h₀ := X.base) I.ok.mod.kin kp (thn (ha.run pos pins _ σ H1 _ I2 q) fun us s3 ⟨vs, H2, I3, r, q2⟩ => ⟨I3.kIn, ?_⟩) hst hpl
  rw [← List.append_nil vs] at q2
  exact run_fn (dvs := []) (ds := []) G hr b .nil hx I3 r q2
section
variable {P : Program} {w : World} {K : PySem.W.Frag} {mg : Str → Option Value} {base : Heap} {C : Addr} {m qual : Str} {st : Stmt} {ps N : List Str} {k : Nat} {sp : Sp}
theorem SAt.ok (F : SAt K C m qual st ps) (S : FnScope N ps (defScope st)) (len : ∀ vs H Q E, sp vs H Q E → vs.length = ps.length)
    (hbody : ∀ (f : Addr) (cdv : Value) (A : Around) (outer : List Env) (s : Shared) (H : Hp) (vs : List V) (Q : VK) (E : XK), Room k (A.deeper (envOfC qual (defScope st) s.heap.objs.size f cdv)) → sp vs H Q E →
      ∃ t, PSs (cxOf CX0 P w K mg base N qual (defScope st) f cdv A outer s H E).nox (defBody st) t ∧ t { nx := fun _ H' => Q .non H', rt := Q } (start N vs) H) : SDef P w K mg base CX0 (k + 1) C m ps sp := by
  obtain ⟨f, fd, G, M, b⟩ := F.ex
  exact ⟨f, fd, G.ok S len (fun cdv A outer s H vs Q E hr h => hbody f cdv A outer s H vs Q E hr h), M, G.kp, b⟩
end
def worF (u : Str) (h : Int) (t0 t1 t2 t3 : Addr) : List (Str × V) := [("text", .str u), ("horizon", .int h), ("satellites", .ref t0), ("stations", .ref t1), ("recordings", .ref t2), ("passes", .ref t3)]
structure WorldAt (K : PySem.W.Frag) (CS CT CR CP CW : Addr) (H : Hp) (a : Addr) (W : WorldD) : Prop where
  ex : ∃ dx t0 t1 t2 t3 x0 x1 x2 x3, H a = some (.ins CW dx (worF (textW W) W.horizon t0 t1 t2 t3)) ∧ SqT K H t0 x0 ∧ Paired (SatAt K CS H) x0 W.sats ∧ SqT K H t1 x1 ∧ Paired (StaAt CT H) x1 W.stas ∧
    SqT K H t2 x2 ∧ Paired (RecAt CR H) x2 W.recs ∧ SqT K H t3 x3 ∧ Paired (PasAt K CP H) x3 W.pass
theorem WorldAt.same {K : PySem.W.Frag} {CS CT CR CP CW : Addr} {H H' : Hp} {a : Addr} {W : WorldD} (h : WorldAt K CS CT CR CP CW H a W) (z : Same H H') : WorldAt K CS CT CR CP CW H' a W := by
  obtain ⟨dx, t0, t1, t2, t3, x0, x1, x2, x3, g, a0, b0, a1, b1, a2, b2, a3, b3⟩ := h.ex
  exact ⟨dx, t0, t1, t2, t3, x0, x1, x2, x3, z _ _ g, Same.tup z a0, Paired.mapP b0 fun _ _ y => y.same z, Same.tup z a1, Paired.mapP b1 fun _ _ y => y.same z, Same.tup z a2, Paired.mapP b2 fun _ _ y => y.same z, Same.tup z a3, Paired.mapP b3 fun _ _ y => y.same z⟩
section
variable {K : PySem.W.Frag} {CS CT CR CP C : Addr} {H H' : Hp} {x dx th l0 l1 l2 l3 : Addr} {y : V} {S : List SatD} {T : List StaD} {R : List RecD} {P : List PasD}
theorem ne_bare {b D dy : Addr} {fs : List (Str × V)} (hx : H x = some (.ins C dx [])) (hb : H b = some (.ins D dy fs)) (n : fs.length ≠ 0) : b ≠ x := ins_ne hb hx n
/-- the things stay where a new object is filled -/
theorem Thg.bare (h : Thg K CS CT CR CP H th l0 l1 l2 l3 S T R P) (hx : H x = some (.ins C dx [])) (z : SameX x H H') : Thg K CS CT CR CP H' th l0 l1 l2 l3 S T R P := by
  obtain ⟨x0, a0, b0⟩ := h.sats
  obtain ⟨x1, a1, b1⟩ := h.stas
  obtain ⟨x2, a2, b2⟩ := h.recs
  obtain ⟨x3, a3, b3⟩ := h.pass
  refine ⟨z _ _ (ne_of h.tup hx (fun z => nomatch z)) h.tup, h.d01, h.d02, h.d03, h.d12, h.d13, h.d23, ⟨x0, z _ _ (ne_of a0 hx (fun z => nomatch z)) a0, Paired.mapP b0 fun _ _ q => ?_⟩, ⟨x1, z _ _ (ne_of a1 hx (fun z => nomatch z)) a1, Paired.mapP b1 fun _ _ q => ?_⟩,
    ⟨x2, z _ _ (ne_of a2 hx (fun z => nomatch z)) a2, Paired.mapP b2 fun _ _ q => ?_⟩, ⟨x3, z _ _ (ne_of a3 hx (fun z => nomatch z)) a3, Paired.mapP b3 fun _ _ q => ?_⟩⟩
  · obtain ⟨b, dx, t, ls, h1, h2, h3, h4⟩ := q
    exact ⟨b, dx, t, ls, h1, z _ _ (ne_bare hx h2 (by show 8 ≠ 0; decide)) h2, z.sqT hx h3, z.spans hx h4⟩
  · obtain ⟨b, dx, h1, h2⟩ := q
    exact ⟨b, dx, h1, z _ _ (ne_bare hx h2 (by show 3 ≠ 0; decide)) h2⟩
  · obtain ⟨b, dx, h1, h2⟩ := q
    exact ⟨b, dx, h1, z _ _ (ne_bare hx h2 (by show 10 ≠ 0; decide)) h2⟩
  · obtain ⟨b, dx, t, h1, h2, h3⟩ := q
    exact ⟨b, dx, t, h1, z _ _ (ne_bare hx h2 (by show 7 ≠ 0; decide)) h2, z.sqT hx h3⟩
end
section
variable {P : Program} {w : World} {K : PySem.W.Frag} {mg : Str → Option Value} {base : Heap} {CL CS CT CR CP CW aS aR fS fT fR fP : Addr}
def spWInit (K : PySem.W.Frag) (CS CT CR CP CW : Addr) : Sp := fun vs H Q _ => ∃ (x dx : Addr) (W : WorldD) (th l0 l1 l2 l3 : Addr), vs = [.ref x, .str (textW W), .int W.horizon, .ref th] ∧ H x = some (.ins CW dx []) ∧
  Thg K CS CT CR CP H th l0 l1 l2 l3 W.sats W.stas W.recs W.pass ∧ ∀ H', SameX x H H' → WorldAt K CS CT CR CP CW H' x W → Q .non H'
theorem dI_World (T : TxtW K mg CL CS CT CR CP CW aS aR fS fT fR fP) (A : MAt K CW "__init__" "World.__init__" s_World___init__ ["self", "text", "horizon", "things"]) : MDef P w K mg base CX0 1 CW "__init__" ["self", "text", "horizon", "things"] [] (spWInit K CS CT CR CP CW) := by
  have B := T.L.B
  refine A.ok sc_World___init__ (fun vs H Q E h => ?_) (fun f cdv A outer s H vs Q E hr h => ?_)
  · obtain ⟨x, dx, W, th, l0, l1, l2, l3, rfl, _⟩ := h
    rfl
  obtain ⟨x, dx, W, th, l0, l1, l2, l3, rfl, hx, hT, q⟩ := h
  refine ⟨_, pss_cons (ps_asg (pv 3) (pg_tup (by rfl) (pgs_cons (pg_name (i := 4) sc_World___init__.nd rfl (Or.inl rfl)) (pgs_cons (pg_name (i := 5) sc_World___init__.nd rfl (Or.inl rfl)) (pgs_cons (pg_name (i := 6) sc_World___init__.nd rfl (Or.inl rfl)) (pgs_cons (pg_name (i := 7) sc_World___init__.nd rfl (Or.inl rfl)) (pgs_nil)))))))
  (pss_cons (ps_fld (pv 0) (pv 1) rfl)
  (pss_cons (ps_fld (pv 0) (pv 2) rfl)
  (pss_cons (ps_fld (pv 0) (pe_callTy (call_tuple_of) (by rfl) B.tuple (by decide +kernel) (pa_cons (pv 4) pa_nil)) rfl)
  (pss_cons (ps_fld (pv 0) (pe_callTy (call_tuple_of) (by rfl) B.tuple (by decide +kernel) (pa_cons (pv 5) pa_nil)) rfl)
  (pss_cons (ps_fld (pv 0) (pe_callTy (call_tuple_of) (by rfl) B.tuple (by decide +kernel) (pa_cons (pv 6) pa_nil)) rfl)
  (pss_one (ps_fld (pv 0) (pe_callTy (call_tuple_of) (by rfl) B.tuple (by decide +kernel) (pa_cons (pv 7) pa_nil)) rfl)))))))
    , ?_⟩
  have cl := T.c_World.cl
  refine ⟨_, rfl, th, _, rfl, SqT.of hT.tup, rfl, _, _, rfl, _, _, rfl, _, _, rfl, _, _, rfl, rfl, ?_⟩
  refine ⟨_, rfl, _, rfl, x, CW, dx, _, rfl, hx, cl, T.n_World_text, (by show 0 < 1000; decide), ?_⟩
  rw [put_nil]
  refine ⟨_, rfl, _, rfl, x, CW, dx, _, rfl, upd_same, cl, T.n_World_horizon, (by show 1 < 1000; decide), ?_⟩
  rw [upd_upd, put_miss (by decide +kernel), put_nil]
  have z1 : SameX x H (upd H x (.ins CW dx [("text", .str (textW W)), ("horizon", .int W.horizon)])) := SameX.upd
  obtain ⟨x0, a0, b0⟩ := (hT.bare hx z1).sats
  refine ⟨_, rfl, l0, x0, rfl, .inl ⟨SqL.of a0, fun t0 ht0 => ?_⟩⟩
  have e0 : x ≠ t0 := fun z => by rw [← z, upd_same] at ht0; cases ht0
  refine ⟨_, rfl, x, CW, dx, _, rfl, (upd_ne e0).trans upd_same, cl, T.n_World_satellites, (by show 2 < 1000; decide), ?_⟩
  rw [put_miss (by decide +kernel), put_miss (by decide +kernel), put_nil]
  have z2 : SameX x H (upd (upd (upd H x (.ins CW dx [("text", .str (textW W)), ("horizon", .int W.horizon)])) t0 (.tup x0)) x (.ins CW dx [("text", .str (textW W)), ("horizon", .int W.horizon), ("satellites", .ref t0)])) := (z1.trans (SameX.of (same_new ht0 _))).trans SameX.upd
  generalize hH2 : (upd (upd (upd H x (.ins CW dx [("text", .str (textW W)), ("horizon", .int W.horizon)])) t0 (.tup x0)) x (.ins CW dx [("text", .str (textW W)), ("horizon", .int W.horizon), ("satellites", .ref t0)])) = H2 at z2
  have g2 : H2 x = some (.ins CW dx [("text", .str (textW W)), ("horizon", .int W.horizon), ("satellites", .ref t0)]) := by rw [← hH2, upd_same]
  have k0 : H2 t0 = some (.tup x0) := by rw [← hH2, upd_ne e0.symm, upd_same]
  obtain ⟨x1, a1, b1⟩ := (hT.bare hx z2).stas
  refine ⟨_, rfl, l1, x1, rfl, .inl ⟨SqL.of a1, fun t1 ht1 => ?_⟩⟩
  have e1 : x ≠ t1 := ne_of_none g2 ht1
  refine ⟨_, rfl, x, CW, dx, _, rfl, (upd_ne e1).trans g2, cl, T.n_World_stations, (by show 3 < 1000; decide), ?_⟩
  rw [put_miss (by decide +kernel), put_miss (by decide +kernel), put_miss (by decide +kernel), put_nil]
  have z3 : SameX x H2 (upd (upd H2 t1 (.tup x1)) x (.ins CW dx [("text", .str (textW W)), ("horizon", .int W.horizon), ("satellites", .ref t0), ("stations", .ref t1)])) := (SameX.of (same_new ht1 _)).trans SameX.upd
  generalize hH3 : (upd (upd H2 t1 (.tup x1)) x (.ins CW dx [("text", .str (textW W)), ("horizon", .int W.horizon), ("satellites", .ref t0), ("stations", .ref t1)])) = H3 at z3
  have g3 : H3 x = some (.ins CW dx [("text", .str (textW W)), ("horizon", .int W.horizon), ("satellites", .ref t0), ("stations", .ref t1)]) := by rw [← hH3, upd_same]
  have k1 : H3 t1 = some (.tup x1) := by rw [← hH3, upd_ne e1.symm, upd_same]
  obtain ⟨x2, a2, b2⟩ := (hT.bare hx (z2.trans z3)).recs
  refine ⟨_, rfl, l2, x2, rfl, .inl ⟨SqL.of a2, fun t2 ht2 => ?_⟩⟩
  have e2 : x ≠ t2 := ne_of_none g3 ht2
  refine ⟨_, rfl, x, CW, dx, _, rfl, (upd_ne e2).trans g3, cl, T.n_World_recordings, (by show 4 < 1000; decide), ?_⟩
  rw [put_miss (by decide +kernel), put_miss (by decide +kernel), put_miss (by decide +kernel), put_miss (by decide +kernel), put_nil]
  have z4 : SameX x H3 (upd (upd H3 t2 (.tup x2)) x (.ins CW dx [("text", .str (textW W)), ("horizon", .int W.horizon), ("satellites", .ref t0), ("stations", .ref t1), ("recordings", .ref t2)])) := (SameX.of (same_new ht2 _)).trans SameX.upd
  generalize hH4 : (upd (upd H3 t2 (.tup x2)) x (.ins CW dx [("text", .str (textW W)), ("horizon", .int W.horizon), ("satellites", .ref t0), ("stations", .ref t1), ("recordings", .ref t2)])) = H4 at z4
  have g4 : H4 x = some (.ins CW dx [("text", .str (textW W)), ("horizon", .int W.horizon), ("satellites", .ref t0), ("stations", .ref t1), ("recordings", .ref t2)]) := by rw [← hH4, upd_same]
  have k2 : H4 t2 = some (.tup x2) := by rw [← hH4, upd_ne e2.symm, upd_same]
  obtain ⟨x3, a3, b3⟩ := (hT.bare hx ((z2.trans z3).trans z4)).pass
  refine ⟨_, rfl, l3, x3, rfl, .inl ⟨SqL.of a3, fun t3 ht3 => ?_⟩⟩
  have e3 : x ≠ t3 := ne_of_none g4 ht3
  refine ⟨_, rfl, x, CW, dx, _, rfl, (upd_ne e3).trans g4, cl, T.n_World_passes, (by show 5 < 1000; decide), ?_⟩
  rw [put_miss (by decide +kernel), put_miss (by decide +kernel), put_miss (by decide +kernel), put_miss (by decide +kernel), put_miss (by decide +kernel), put_nil]
  have z5 : SameX x H4 (upd (upd H4 t3 (.tup x3)) x (.ins CW dx (worF (textW W) W.horizon t0 t1 t2 t3))) := (SameX.of (same_new ht3 _)).trans SameX.upd
  have zz := (((z2.trans z3).trans z4).trans z5)
  have hTT := hT.bare hx zz
  have c0 : ∀ {y0 : List V}, Paired (SatAt K CS H) y0 W.sats → True := fun _ => True.intro
  obtain ⟨y0, q0, r0⟩ := hT.sats
  obtain ⟨y1, q1, r1⟩ := hT.stas
  obtain ⟨y2, q2, r2⟩ := hT.recs
  obtain ⟨y3, q3, r3⟩ := hT.pass
  obtain ⟨w0, u0, v0⟩ := hTT.sats
  obtain ⟨w1, u1, v1⟩ := hTT.stas
  obtain ⟨w2, u2, v2⟩ := hTT.recs
  obtain ⟨w3, u3, v3⟩ := hTT.pass
  have n0 : l0 ≠ x := ne_of q0 hx (fun z => nomatch z)
  have n1 : l1 ≠ x := ne_of q1 hx (fun z => nomatch z)
  have n2 : l2 ≠ x := ne_of q2 hx (fun z => nomatch z)
  have n3 : l3 ≠ x := ne_of q3 hx (fun z => nomatch z)
  have j0 : w0 = x0 := HO.lst.inj (Option.some.inj (u0.symm.trans ((((z2.trans z3).trans z4).trans z5) _ _ n0 q0 |>.trans (by rw [← (z1 _ _ n0 q0).symm.trans a0]))))
  have j1 : w1 = x1 := HO.lst.inj (Option.some.inj (u1.symm.trans ((((z2.trans z3).trans z4).trans z5) _ _ n1 q1 |>.trans (by rw [← (z2 _ _ n1 q1).symm.trans a1]))))
  have j2 : w2 = x2 := HO.lst.inj (Option.some.inj (u2.symm.trans ((((z2.trans z3).trans z4).trans z5) _ _ n2 q2 |>.trans (by rw [← ((z2.trans z3) _ _ n2 q2).symm.trans a2]))))
  have j3 : w3 = x3 := HO.lst.inj (Option.some.inj (u3.symm.trans ((((z2.trans z3).trans z4).trans z5) _ _ n3 q3 |>.trans (by rw [← (((z2.trans z3).trans z4) _ _ n3 q3).symm.trans a3]))))
  subst j0 j1 j2 j3
  exact q _ zz ⟨dx, t0, t1, t2, t3, w0, w1, w2, w3, upd_same, SqT.of (z5 _ _ e0.symm (z4 _ _ e0.symm (z3 _ _ e0.symm k0))), v0, SqT.of (z5 _ _ e1.symm (z4 _ _ e1.symm k1)), v1, SqT.of (z5 _ _ e2.symm k2), v2, SqT.of (by rw [upd_ne e3.symm, upd_same]), v3⟩
end
end DP
namespace DP
open PySem PySem.Spec PyProof.Rows L2
section
variable {P : Program} {w : World} {K : PySem.W.Frag} {mg : Str → Option Value} {base : Heap} {CL CS CT CR CP CW aS aR fS fT fR fP : Addr}
def spParse (K : PySem.W.Frag) (CS CT CR CP CW : Addr) : Sp := fun vs H Q _ => ∃ W : WorldD, vs = [.str (textW W)] ∧ WorldOk W ∧ ∀ a H', H a = none → Same H H' → WorldAt K CS CT CR CP CW H' a W → Q (.ref a) H'
theorem d_parse (T : TxtW K mg CL CS CT CR CP CW aS aR fS fT fR fP) (D_lines_of : DefOk P w K mg base CX0 3 "lines_of" ["text"] (spLines CL)) (D_Line_read_field : MDef P w K mg base CX0 4 CL "read_field" ["self", "word", "least", "most"] [] (spField CL))
    (D_Line_finish : MDef P w K mg base CX0 3 CL "finish" ["self"] [] (spFinish CL)) (D_read_things : DefOk P w K mg base CX0 6 "read_things" ["lines", "horizon"] (spThings K CL CS CT CR CP))
    (DI_World : MDef P w K mg base CX0 1 CW "__init__" ["self", "text", "horizon", "things"] [] (spWInit K CS CT CR CP CW)) (A : SAt K CW "parse" "World.parse" s_World_parse ["text"]) : SDef P w K mg base CX0 7 CW "parse" ["text"] (spParse K CS CT CR CP CW) := by
  have B := T.L.B
  refine A.ok sc_World_parse (fun vs H Q E h => ?_) (fun f cdv A outer s H vs Q E hr h => ?_)
  · obtain ⟨W, rfl, _⟩ := h
    rfl
  obtain ⟨W, rfl, wok, q⟩ := h
  refine ⟨_, pss_cons (ps_set (i := 1) sc_World_parse.nd rfl (Or.inl rfl) (pe_f D_lines_of (hr.mono (by omega)) pass0 (pa_cons (pv 0) pa_nil)))
  (pss_cons (ps_if (pt_cmpR op_eq (pe_callB (call_len_seq) (by rfl) B.len (by decide +kernel) (pa_cons (pv 1) pa_nil)) pe_int (nomark _))
      (pss_one (ps_never))
      (pss_nil))
  (pss_cons (ps_set (i := 2) sc_World_parse.nd rfl (Or.inl rfl) (pe_m D_Line_read_field T.c_Line.cl (hr.mono (by omega)) pass0 (pe_ix ix_list (pv 1) pe_int (fun _ _ => rfl)) (pa_cons pe_str (pa_cons pe_int (pa_cons (ClX.pe_cval (pe_ga T.c_World.gC) rfl) pa_nil)))))
  (pss_cons (ps_expr (pe_m0 D_Line_finish T.c_Line.cl (hr.mono (by omega)) pass0 (pe_ix ix_list (pv 1) pe_int (fun _ _ => rfl))))
  (pss_one (ps_ret (pe_mk DI_World T.c_World (hr.mono (by omega)) pass0 (pa_cons (pv 0) (pa_cons (pv 2) (pa_cons (pe_f D_read_things (hr.mono (by omega)) pass0 (pa_cons (pe_slice sl_list (pv 1) (po_some pe_int) po_none) (pa_cons (pv 2) pa_nil))) pa_nil)))))))))
    , ?_⟩
  refine ⟨_, rfl, linesW W, rfl, linesW_ok wok, Nat.le_trans (linesW_len wok) (by decide), textW_len wok, fun p as H1 s1 hp hfr hnd hpp hpr => ?_⟩
  obtain ⟨a0, ar, rfl⟩ : ∃ a0 ar, as = a0 :: ar := by
    cases hpr with
    | cons _ _ => exact ⟨_, _, rfl⟩
  obtain ⟨L0, hpr2⟩ : LnAt CL H1 a0 (wHor W.horizon) 0 ∧ Paired (fun a l => LnAt CL H1 a l 0) ar (restW W) := by
    cases hpr with
    | cons x y => exact ⟨x, y⟩
  have hl0 : a0 ≠ p := by
    obtain ⟨dx, n, wl, c, g1, g2⟩ := L0.ex
    exact ne_of g1 hpp (fun z => nomatch z)
  refine ⟨_, rfl, p, _, rfl, .inl (SqL.of hpp), rfl, _, rfl, iteF' (decide_eq_false fun z => by
    have z2 := V.int.inj z
    rw [List.length_map, List.length_cons] at z2
    omega) ?_⟩
  obtain ⟨tk, hv⟩ := T.v_MOST_HORIZON
  have hh := wok.horizon
  obtain ⟨dx0, fs0, g0, z0⟩ := LnAt.no L0 (m := "read_field") (by decide +kernel) (by decide +kernel) (by decide +kernel) (by decide +kernel)
  refine ⟨_, rfl, p, _, _, .ref a0, rfl, rfl, SqL.of hpp, atI_nat (j := 0) rfl, a0, _, _, rfl, g0, z0, CW, _, _, _, rfl, T.rdW, hv, a0, _, 0, _, _, _, W.horizon, rfl, L0, rfl, rfl, by omega, by omega, by omega, by omega, fun H2 s2 L2 => ?_⟩
  have hpp2 := s2 _ _ hl0.symm hpp
  obtain ⟨dx1, fs1, g1, z1⟩ := LnAt.no L2 (m := "finish") (by decide +kernel) (by decide +kernel) (by decide +kernel) (by decide +kernel)
  refine ⟨_, rfl, p, _, _, .ref a0, rfl, rfl, SqL.of hpp2, atI_nat (j := 0) rfl, a0, _, _, rfl, g1, z1, a0, _, rfl, L2, ?_⟩
  have sl : cutV ((a0 :: ar).map V.ref) (some 1) none = ar.map V.ref := by
    unfold cutV
    rw [show HT.sIx ((a0 :: ar).map V.ref).length 0 (some 1) = min 1 ((a0 :: ar).map V.ref).length from HT.sIx_nat _ 0 1, HT.sIx_none]
    rw [List.map_cons, List.length_cons, show min 1 ((ar.map V.ref).length + 1) = 1 by omega]
    show List.take ((ar.map V.ref).length + 1 - 1) (ar.map V.ref) = ar.map V.ref
    rw [Nat.add_sub_cancel, List.take_length]
  refine ⟨_, rfl, _, rfl, _, rfl, 1, rfl, p, _, rfl, SqL.of hpp2, fun p2 hp2 => ?_⟩
  rw [sl]
  have nd2 := List.nodup_cons.mp hnd
  refine ⟨_, rfl, p2, ar, W, rfl, SqL.of upd_same, nd2.2, wok, ?_, fun th l0 l1 l2 l3 H3 s3 hT => ?_⟩
  · -- the lines stay
    have key : ∀ {as : List Addr} {ls : List (List Str)}, a0 ∉ as → Paired (fun a l => LnAt CL H1 a l 0) as ls → Paired (fun a l => LnAt CL (upd H2 p2 (.lst (ar.map V.ref))) a l 0) as ls := by
      intro as ls hn hp
      induction hp with
      | nil => exact .nil
      | cons x _ ih =>
        refine .cons ?_ (ih fun z => hn (List.mem_cons_of_mem _ z))
        exact (x.sx L0 (fun z => hn (z ▸ List.mem_cons_self)) s2).same (same_new hp2 _)
    exact key nd2.1 hpr2
  refine fun x dx hx hdx ne => ?_
  have sm : Same H3 (upd (upd H3 dx (.own x)) x (.ins CW dx [])) := fun b o e => by
    rw [upd_ne (ne_of_none e hx), upd_ne (ne_of_none e hdx)]
    exact e
  refine ⟨x, dx, W, th, l0, l1, l2, l3, rfl, upd_same, hT.same sm, fun H4 s4 hW => ⟨rfl, ?_⟩⟩
  have all : Same H H3 := fun b o e => by
    have n0 : b ≠ a0 := ne_of_none e (hfr a0 List.mem_cons_self)
    refine s3 b o (fun z => ?_) (same_new hp2 _ b o (s2 b o n0 (s1 b o e)))
    exact ne_of_none e (hfr b (List.mem_cons_of_mem _ z)) rfl
  refine q x H4 (all.free hx) (fun b o e => ?_) hW
  have e3 := all b o e
  exact s4 b o (ne_of_none e3 hx) (sm b o e3)
end
end DP
namespace DP
open PySem PySem.Spec PyProof.Rows L2
abbrev s__law_cell : Stmt := topS 57
theorem sc__law_cell : FnScope ["script", "k"] ["script", "k"] (defScope s__law_cell) := ⟨rfl, rfl, rfl, by decide +kernel, rfl, by decide +kernel, by decide +kernel⟩
abbrev s__law_draws : Stmt := topS 58
theorem sc__law_draws : FnScope ["cell", "count", "result", "rest", "k", "mixed"] ["cell", "count"] (defScope s__law_draws) := ⟨rfl, rfl, rfl, by decide +kernel, rfl, by decide +kernel, by decide +kernel⟩
abbrev s__law_satellite : Stmt := topS 59
theorem sc__law_satellite : FnScope ["cell", "k", "n", "battery", "level", "reserve", "text", "first"] ["cell", "k"] (defScope s__law_satellite) := ⟨rfl, rfl, rfl, by decide +kernel, rfl, by decide +kernel, by decide +kernel⟩
abbrev s__law_recording : Stmt := topS 60
theorem sc__law_recording : FnScope ["cell", "k", "satellites", "n", "earliest", "text"] ["cell", "k", "satellites"] (defScope s__law_recording) := ⟨rfl, rfl, rfl, by decide +kernel, rfl, by decide +kernel, by decide +kernel⟩
abbrev s__law_pass : Stmt := topS 61
theorem sc__law_pass : FnScope ["cell", "k", "satellites", "stations", "n", "first", "text"] ["cell", "k", "satellites", "stations"] (defScope s__law_pass) := ⟨rfl, rfl, rfl, by decide +kernel, rfl, by decide +kernel, by decide +kernel⟩
theorem tl_app (x y : Str) : tl (x ++ y) = tl x ++ tl y := TL.tl_append x y
theorem len_app (a b : Str) : (a ++ b).length = a.length + b.length := by
  rw [TL.len_tl, TL.len_tl, TL.len_tl, show TL.tl (a ++ b) = TL.tl a ++ TL.tl b from TL.tl_append a b, List.length_append]
theorem lit_len (s : String) : (Str.ofString s).length = s.length := by
  rw [TL.len_tl, TL.tl_ofString, List.length_map]
  rfl
theorem log_ok {n : Int} (h0 : 0 ≤ n) (h1 : n < 10000000) : n.natAbs.log2 < 1920 := by
  by_cases c : n.natAbs = 0
  · rw [c]; decide
  · refine (Nat.log2_lt c).mpr ?_
    have : n.natAbs < 2 ^ 24 := by omega
    exact Nat.lt_of_lt_of_le this (Nat.pow_le_pow_right (by decide) (by decide))
theorem num_len {n : Int} (h0 : 0 ≤ n) (h1 : n < 10000000) : (num n).length ≤ 7 := by
  rw [TL.len_tl, show TL.tl (num n) = tl (num n) from rfl, num_nat h0]
  exact numL_len7 (by omega)
theorem tos_len {n : Int} (h0 : 0 ≤ n) (h1 : n < 10000000) : (toString n).length ≤ 7 := by
  have h := num_len h0 h1
  unfold num at h
  rw [lit_len] at h
  exact h
theorem ll0 : ("satellite s" : String).length = 11 := by decide +kernel
theorem ll1 : (" store " : String).length = 7 := by decide +kernel
theorem ll2 : (" battery " : String).length = 9 := by decide +kernel
theorem ll3 : (" level " : String).length = 7 := by decide +kernel
theorem ll4 : (" reserve " : String).length = 9 := by decide +kernel
theorem ll5 : (" charge " : String).length = 8 := by decide +kernel
theorem ll6 : (" settle " : String).length = 8 := by decide +kernel
theorem ll7 : (" light" : String).length = 6 := by decide +kernel
theorem ll8 : (" " : String).length = 1 := by decide +kernel
theorem ll9 : ("\n" : String).length = 1 := by decide +kernel
theorem ll10 : ("recording r" : String).length = 11 := by decide +kernel
theorem ll11 : (" by s" : String).length = 5 := by decide +kernel
theorem ll12 : (" from " : String).length = 6 := by decide +kernel
theorem ll13 : (" to " : String).length = 4 := by decide +kernel
theorem ll14 : (" length " : String).length = 8 := by decide +kernel
theorem ll15 : (" size " : String).length = 6 := by decide +kernel
theorem ll16 : (" energy " : String).length = 8 := by decide +kernel
theorem ll17 : (" worth " : String).length = 7 := by decide +kernel
theorem ll18 : (" rank " : String).length = 6 := by decide +kernel
theorem ll19 : (" until " : String).length = 7 := by decide +kernel
theorem ll20 : ("pass p" : String).length = 6 := by decide +kernel
theorem ll21 : (" over t" : String).length = 7 := by decide +kernel
theorem ll22 : (" room " : String).length = 6 := by decide +kernel
theorem ll23 : (" fee " : String).length = 5 := by decide +kernel
theorem ll24 : ("station t" : String).length = 9 := by decide +kernel
theorem ll25 : (" antennas " : String).length = 10 := by decide +kernel
theorem ll26 : (" turn " : String).length = 6 := by decide +kernel
theorem glue_snoc (l : List Str) (r : Str) : glue (l ++ [r]) = glue l ++ (r ++ nl) := by
  refine TL.ext_tl ?_
  show tl (glue (l ++ [r])) = tl (glue l ++ (r ++ nl))
  rw [tl_app, tl_app, tl_nl, glue_tl, glue_tl, List.map_append, List.flatten_append]
  simp
theorem big {m : Nat} (h : m ≤ 16000000) : m ≤ sizeLine := Nat.le_trans h (by decide)
def nameC (c : Str) (k : Int) : Str := c ++ num k
theorem nameC_ok {c : Str} {x k : Nat} (hc : tl c = [x]) (hx : isL x = true) (hk : k < 10) : NameOk (nameC c (k : Int)) := by
  refine ⟨x, [48 + k], ?_, hx, fun y hy => ?_, by show 1 ≤ 14; decide⟩
  · unfold nameC
    rw [tl_app, hc, num_nat (by omega), show ((k : Int)).toNat = k by omega, TL.numL_lt hk]
    rfl
  · rw [List.mem_singleton.mp hy]
    have : isD (48 + k) = true := by
      unfold isD
      rw [decide_eq_true (by omega : 48 ≤ 48 + k), decide_eq_true (by omega : 48 + k ≤ 57)]
      rfl
    rw [this, Bool.or_true]
theorem nameC_inj {c : Str} {j k : Int} (hj : 0 ≤ j) (hk : 0 ≤ k) (h : nameC c j = nameC c k) : j = k := by
  have e : tl (nameC c j) = tl (nameC c k) := congrArg tl h
  unfold nameC at e
  rw [tl_app, tl_app] at e
  have e2 := List.append_cancel_left e
  exact num_inj hj hk (TL.ext_tl e2)
/-- the names of the things of a sort, as they come -/
def Nam (c : Str) (ns : List Str) : Prop := ns = (List.range ns.length).map fun k => nameC c (k : Nat)
theorem Nam.nil (c : Str) : Nam c [] := rfl
theorem Nam.snoc {c : Str} {ns : List Str} (h : Nam c ns) : Nam c (ns ++ [nameC c (ns.length : Nat)]) := by
  unfold Nam at h ⊢
  rw [List.length_append, List.length_singleton, List.range_succ, List.map_append, ← h]
  rfl
theorem Nam.at {c : Str} {ns : List Str} (h : Nam c ns) {i : Nat} (hi : i < ns.length) : ns[i]? = some (nameC c (i : Nat)) := by
  unfold Nam at h
  rw [h, List.getElem?_map, List.getElem?_range hi]
  rfl
theorem Nam.nodup {c : Str} {ns : List Str} (h : Nam c ns) : ns.Nodup := by
  unfold Nam at h
  rw [h]
  refine List.Pairwise.map _ (fun a b hab => ?_) List.nodup_range
  intro z
  have := nameC_inj (by omega) (by omega) z
  exact hab (by omega)
def cS : Str := Str.ofString "s"
def cT : Str := Str.ofString "t"
def cR : Str := Str.ofString "r"
def cP : Str := Str.ofString "p"
def wRecN (sn : Str) (r : RecD) : List Str := [Str.ofString "recording", r.name, Str.ofString "by", sn, Str.ofString "from", num r.earliest, Str.ofString "to", num r.latest,
  Str.ofString "length", num r.length, Str.ofString "size", num r.size, Str.ofString "energy", num r.energy, Str.ofString "worth", num r.worth, Str.ofString "rank", num r.rank, Str.ofString "until", num r.deadline]
def wPasN (sn tn : Str) (p : PasD) : List Str := [Str.ofString "pass", p.name, Str.ofString "by", sn, Str.ofString "over", tn, Str.ofString "from", num p.first, Str.ofString "to", num p.fin,
  Str.ofString "room", num p.room, Str.ofString "energy", num p.energy, Str.ofString "fee", num p.fee]
theorem row_tl (ws : List Str) : tl (row ws) = TL.joinL (tl sp) (ws.map tl) := TL.tl_join sp ws
theorem joinL_app {S : List Nat} : ∀ {a b : List (List Nat)}, a ≠ [] → b ≠ [] → TL.joinL S (a ++ b) = TL.joinL S a ++ (S ++ TL.joinL S b)
  | [], _, h, _ => absurd rfl h
  | [x], b, _, h => by
    cases b with
    | nil => exact absurd rfl h
    | cons y r => rfl
  | x :: y :: r, b, _, h => by
    show x ++ (S ++ TL.joinL S ((y :: r) ++ b)) = (x ++ (S ++ TL.joinL S (y :: r))) ++ (S ++ TL.joinL S b)
    rw [joinL_app (List.cons_ne_nil _ _) h]
    simp only [List.append_assoc]
theorem row_two {ws : List Str} (h : ws ≠ []) (x y : Str) : row ws ++ Str.ofString " " ++ x ++ Str.ofString " " ++ y = row (ws ++ [x, y]) := by
  refine TL.ext_tl ?_
  show tl _ = tl _
  simp only [tl_app, row_tl]
  rw [List.map_append, joinL_app (by simpa using h) (by simp), show tl (Str.ofString " ") = tl sp by decide +kernel]
  show _ = _ ++ (tl sp ++ (tl x ++ (tl sp ++ tl y)))
  simp only [List.append_assoc]
theorem row_sat0 (k st b l r c se : Int) : Str.ofString "satellite s" ++ num k ++ Str.ofString " store " ++ num st ++ Str.ofString " battery " ++ num b ++ Str.ofString " level " ++ num l ++ Str.ofString " reserve " ++ num r ++ Str.ofString " charge " ++ num c ++ Str.ofString " settle " ++ num se ++ Str.ofString " light" =
    row (wSat ⟨nameC cS k, st, b, l, r, c, se, []⟩) := by
  refine TL.ext_tl ?_
  show tl _ = tl _
  rw [row_tl]
  show tl _ = tl (Str.ofString "satellite") ++ (tl sp ++ (tl (cS ++ num k) ++ (tl sp ++ (tl (Str.ofString "store") ++ (tl sp ++ (tl (num st) ++ (tl sp ++ (tl (Str.ofString "battery") ++ (tl sp ++ (tl (num b) ++ (tl sp ++ (tl (Str.ofString "level") ++ (tl sp ++ (tl (num l) ++ (tl sp ++
    (tl (Str.ofString "reserve") ++ (tl sp ++ (tl (num r) ++ (tl sp ++ (tl (Str.ofString "charge") ++ (tl sp ++ (tl (num c) ++ (tl sp ++ (tl (Str.ofString "settle") ++ (tl sp ++ (tl (num se) ++ (tl sp ++ tl (Str.ofString "light"))))))))))))))))))))))))))))
  simp only [tl_app]
  rw [show tl (Str.ofString "satellite s") = tl (Str.ofString "satellite") ++ (tl sp ++ tl cS) by decide +kernel, show tl (Str.ofString " store ") = tl sp ++ (tl (Str.ofString "store") ++ tl sp) by decide +kernel, show tl (Str.ofString " battery ") = tl sp ++ (tl (Str.ofString "battery") ++ tl sp) by decide +kernel, show tl (Str.ofString " level ") = tl sp ++ (tl (Str.ofString "level") ++ tl sp) by decide +kernel, show tl (Str.ofString " reserve ") = tl sp ++ (tl (Str.ofString "reserve") ++ tl sp) by decide +kernel, show tl (Str.ofString " charge ") = tl sp ++ (tl (Str.ofString "charge") ++ tl sp) by decide +kernel, show tl (Str.ofString " settle ") = tl sp ++ (tl (Str.ofString "settle") ++ tl sp) by decide +kernel, show tl (Str.ofString " light") = tl sp ++ tl (Str.ofString "light") by decide +kernel]
  simp only [List.append_assoc]
theorem row_recC (k s e l n z en wo ra d : Int) : Str.ofString "recording r" ++ num k ++ Str.ofString " by s" ++ num s ++ Str.ofString " from " ++ num e ++ Str.ofString " to " ++ num l ++ Str.ofString " length " ++ num n ++ Str.ofString " size " ++ num z ++ Str.ofString " energy " ++ num en ++ Str.ofString " worth " ++ num wo ++ Str.ofString " rank " ++ num ra ++ Str.ofString " until " ++ num d ++ Str.ofString "\n" =
    row (wRecN (nameC cS s) ⟨nameC cR k, s.toNat, e, l, n, z, en, wo, ra, d⟩) ++ nl := by
  refine TL.ext_tl ?_
  show tl _ = tl (row _ ++ nl)
  rw [tl_app (row _), row_tl]
  show tl _ = (tl (Str.ofString "recording") ++ (tl sp ++ (tl (cR ++ num k) ++ (tl sp ++ (tl (Str.ofString "by") ++ (tl sp ++ (tl (cS ++ num s) ++ (tl sp ++ (tl (Str.ofString "from") ++ (tl sp ++ (tl (num e) ++ (tl sp ++ (tl (Str.ofString "to") ++ (tl sp ++ (tl (num l) ++ (tl sp ++ (tl (Str.ofString "length") ++ (tl sp ++ (tl (num n) ++ (tl sp ++
    (tl (Str.ofString "size") ++ (tl sp ++ (tl (num z) ++ (tl sp ++ (tl (Str.ofString "energy") ++ (tl sp ++ (tl (num en) ++ (tl sp ++ (tl (Str.ofString "worth") ++ (tl sp ++ (tl (num wo) ++ (tl sp ++ (tl (Str.ofString "rank") ++ (tl sp ++ (tl (num ra) ++ (tl sp ++ (tl (Str.ofString "until") ++ (tl sp ++ tl (num d))))))))))))))))))))))))))))))))))))))) ++ tl nl
  simp only [tl_app]
  rw [show tl (Str.ofString "recording r") = tl (Str.ofString "recording") ++ (tl sp ++ tl cR) by decide +kernel, show tl (Str.ofString " by s") = tl sp ++ (tl (Str.ofString "by") ++ (tl sp ++ tl cS)) by decide +kernel, show tl (Str.ofString " from ") = tl sp ++ (tl (Str.ofString "from") ++ tl sp) by decide +kernel, show tl (Str.ofString " to ") = tl sp ++ (tl (Str.ofString "to") ++ tl sp) by decide +kernel, show tl (Str.ofString " length ") = tl sp ++ (tl (Str.ofString "length") ++ tl sp) by decide +kernel, show tl (Str.ofString " size ") = tl sp ++ (tl (Str.ofString "size") ++ tl sp) by decide +kernel, show tl (Str.ofString " energy ") = tl sp ++ (tl (Str.ofString "energy") ++ tl sp) by decide +kernel, show tl (Str.ofString " worth ") = tl sp ++ (tl (Str.ofString "worth") ++ tl sp) by decide +kernel, show tl (Str.ofString " rank ") = tl sp ++ (tl (Str.ofString "rank") ++ tl sp) by decide +kernel, show tl (Str.ofString " until ") = tl sp ++ (tl (Str.ofString "until") ++ tl sp) by decide +kernel, show tl (Str.ofString "\n") = tl nl by decide +kernel]
  simp only [List.append_assoc]
theorem row_pasC (k s t f n ro en fe : Int) : Str.ofString "pass p" ++ num k ++ Str.ofString " by s" ++ num s ++ Str.ofString " over t" ++ num t ++ Str.ofString " from " ++ num f ++ Str.ofString " to " ++ num n ++ Str.ofString " room " ++ num ro ++ Str.ofString " energy " ++ num en ++ Str.ofString " fee " ++ num fe ++ Str.ofString "\n" =
    row (wPasN (nameC cS s) (nameC cT t) ⟨nameC cP k, s.toNat, t.toNat, f, n, ro, en, fe⟩) ++ nl := by
  refine TL.ext_tl ?_
  show tl _ = tl (row _ ++ nl)
  rw [tl_app (row _), row_tl]
  show tl _ = (tl (Str.ofString "pass") ++ (tl sp ++ (tl (cP ++ num k) ++ (tl sp ++ (tl (Str.ofString "by") ++ (tl sp ++ (tl (cS ++ num s) ++ (tl sp ++ (tl (Str.ofString "over") ++ (tl sp ++ (tl (cT ++ num t) ++ (tl sp ++ (tl (Str.ofString "from") ++ (tl sp ++ (tl (num f) ++ (tl sp ++ (tl (Str.ofString "to") ++ (tl sp ++ (tl (num n) ++ (tl sp ++
    (tl (Str.ofString "room") ++ (tl sp ++ (tl (num ro) ++ (tl sp ++ (tl (Str.ofString "energy") ++ (tl sp ++ (tl (num en) ++ (tl sp ++ (tl (Str.ofString "fee") ++ (tl sp ++ tl (num fe))))))))))))))))))))))))))))))) ++ tl nl
  simp only [tl_app]
  rw [show tl (Str.ofString "pass p") = tl (Str.ofString "pass") ++ (tl sp ++ tl cP) by decide +kernel, show tl (Str.ofString " by s") = tl sp ++ (tl (Str.ofString "by") ++ (tl sp ++ tl cS)) by decide +kernel, show tl (Str.ofString " over t") = tl sp ++ (tl (Str.ofString "over") ++ (tl sp ++ tl cT)) by decide +kernel, show tl (Str.ofString " from ") = tl sp ++ (tl (Str.ofString "from") ++ tl sp) by decide +kernel, show tl (Str.ofString " to ") = tl sp ++ (tl (Str.ofString "to") ++ tl sp) by decide +kernel, show tl (Str.ofString " room ") = tl sp ++ (tl (Str.ofString "room") ++ tl sp) by decide +kernel, show tl (Str.ofString " energy ") = tl sp ++ (tl (Str.ofString "energy") ++ tl sp) by decide +kernel, show tl (Str.ofString " fee ") = tl sp ++ (tl (Str.ofString "fee") ++ tl sp) by decide +kernel, show tl (Str.ofString "\n") = tl nl by decide +kernel]
  simp only [List.append_assoc]
theorem glue_staC (rows : List (List Str)) (k a t : Int) : glue (rows.map row) ++ Str.ofString "station t" ++ num k ++ Str.ofString " antennas " ++ num a ++ Str.ofString " turn " ++ num t ++ Str.ofString "\n" = glue ((rows ++ [wSta ⟨nameC cT k, a, t⟩]).map row) := by
  rw [List.map_append, show [wSta ⟨nameC cT k, a, t⟩].map row = [row (wSta ⟨nameC cT k, a, t⟩)] from rfl, glue_snoc]
  refine TL.ext_tl ?_
  show tl _ = tl (_ ++ (row _ ++ nl))
  rw [tl_app (glue _), tl_app (row _), row_tl]
  show tl _ = tl (glue (rows.map row)) ++ ((tl (Str.ofString "station") ++ (tl sp ++ (tl (cT ++ num k) ++ (tl sp ++ (tl (Str.ofString "antennas") ++ (tl sp ++ (tl (num a) ++ (tl sp ++ (tl (Str.ofString "turn") ++ (tl sp ++ tl (num t))))))))))) ++ tl nl)
  simp only [tl_app]
  rw [show tl (Str.ofString "station t") = tl (Str.ofString "station") ++ (tl sp ++ tl cT) by decide +kernel, show tl (Str.ofString " antennas ") = tl sp ++ (tl (Str.ofString "antennas") ++ tl sp) by decide +kernel, show tl (Str.ofString " turn ") = tl sp ++ (tl (Str.ofString "turn") ++ tl sp) by decide +kernel, show tl (Str.ofString "\n") = tl nl by decide +kernel]
  simp only [List.append_assoc]
/-- a line behind the others -/
theorem glue_add (rows : List (List Str)) (ws : List Str) : glue (rows.map row) ++ (row ws ++ nl) = glue ((rows ++ [ws]).map row) := by
  rw [List.map_append, show [ws].map row = [row ws] from rfl, glue_snoc]
end DP
namespace DP
open PySem PySem.Spec PyProof.Rows L2
section
variable {P : Program} {w : World} {K : PySem.W.Frag} {mg : Str → Option Value} {base : Heap}
/-- some int -/
def spCell (K : PySem.W.Frag) : Sp := fun vs H Q _ => ∃ (a : Addr) (ns : List Int) (k : Int), vs = [.ref a, .int k] ∧ SqL K H a (ns.map V.int) ∧ 0 ≤ k ∧ ∀ v : Int, Q (.int v) H
theorem d_cell (B : Bt mg) (A : At K mg "_law_cell" s__law_cell ["script", "k"]) : DefOk P w K mg base CX0 1 "_law_cell" ["script", "k"] (DP.spCell K) := by
  refine A.ok sc__law_cell (fun vs H Q E h => ?_) (fun f cdv A outer s H vs Q E hr h => ?_)
  · obtain ⟨a, ns, k, rfl, _⟩ := h
    rfl
  obtain ⟨a, ns, k, rfl, hS, h0, q⟩ := h
  refine ⟨_, pss_cons (ps_if (pt_cmpR op_lt (pv 1) (pe_callB (call_len_seq) (by rfl) B.len (by decide +kernel) (pa_cons (pv 0) pa_nil)) (nomark _))
      (pss_one (ps_ret (pe_ix ix_list (pv 0) (pv 1) (fun _ _ => rfl))))
      (pss_nil))
  (pss_one (ps_ret pe_int))
    , ?_⟩
  refine ⟨_, rfl, _, rfl, a, _, rfl, .inl hS, _, _, rfl, rfl, _, rfl, ?_⟩
  refine ite2 (fun c => ?_) (fun c => ?_)
  · have c' : k < (((ns.map V.int).length : Nat) : Int) := of_decide_eq_true c
    rw [List.length_map] at c'
    have hk : k.toNat < ns.length := by omega
    have ek : k = ((k.toNat : Nat) : Int) := by omega
    have g : (ns.map V.int)[k.toNat]? = some (.int ns[k.toNat]) := by rw [List.getElem?_map, List.getElem?_eq_getElem hk] <;> rfl
    have g2 : atI (ns.map V.int) k = some (.int ns[k.toNat]) := by
      have := atI_nat g
      rw [← ek] at this
      exact this
    exact ⟨_, rfl, _, rfl, a, _, _, _, rfl, rfl, hS, g2, q _⟩
  · exact q 0
/-- a new list of so many ints -/
def spDrawsC : Sp := fun vs H Q _ => ∃ (c : Int) (n : Nat), vs = [.int c, .int (n : Int)] ∧ n ≤ 60 ∧ ∀ (p : Addr) (ds : List Int) (H' : Hp), Same H H' → H p = none → ds.length = n → H' p = some (.lst (ds.map V.int)) → Q (.ref p) H'
theorem d_draws (B : Bt mg) (A : At K mg "_law_draws" s__law_draws ["cell", "count"]) : DefOk P w K mg base CX0 1 "_law_draws" ["cell", "count"] spDrawsC := by
  refine A.ok sc__law_draws (fun vs H Q E h => ?_) (fun f cdv A outer s H vs Q E hr h => ?_)
  · obtain ⟨c, n, rfl, _⟩ := h
    rfl
  obtain ⟨c, n, rfl, hn, q⟩ := h
  refine ⟨_, pss_cons (ps_set (i := 2) sc__law_draws.nd rfl (Or.inl rfl) (pe_lst pa_nil))
  (pss_cons (ps_set (i := 3) sc__law_draws.nd rfl (Or.inl rfl) (pe_callTy (call_int1) (by rfl) B.int (by decide +kernel) (pa_cons (pv 0) pa_nil)))
  (pss_cons (ps_for PassesOwn.never rfl (pi_range1 (by rfl) B.range (pa_cons (pv 1) pa_nil)) (pg_name (i := 4) sc__law_draws.nd rfl (Or.inl rfl))
      (pss_cons (ps_set (i := 5) sc__law_draws.nd rfl (Or.inl rfl) (pe_op op_mod (pe_callTy (call_int1) (by rfl) B.int (by decide +kernel) (pa_cons (pe_op op_add (pe_op op_add (pe_op op_mul (pv 0) pe_int) (pe_op op_mul (pv 4) pe_int)) pe_int) pa_nil)) pe_int))
      (pss_one (ps_if (pt_cmpR op_ge (pv 0) (pe_op op_pow pe_int pe_int) (nomark _))
          (pss_cons (ps_expr (pe_bm PySem.F.plainAttrs_list PySem.F.slot_list_append PySem.F.type_list_append mt_append (pv 2) (pa_cons (pe_op op_mod (pv 3) pe_int) pa_nil)))
          (pss_one (ps_set (i := 3) sc__law_draws.nd rfl (Or.inl rfl) (pe_op op_fdiv (pv 3) pe_int))))
          (pss_one (ps_expr (pe_bm PySem.F.plainAttrs_list PySem.F.slot_list_append PySem.F.type_list_append mt_append (pv 2) (pa_cons (pe_op op_fdiv (pe_op op_mod (pe_callTy (call_int1) (by rfl) B.int (by decide +kernel) (pa_cons (pe_op op_add (pe_op op_mul (pv 5) (pv 5)) (pe_op op_mul (pv 5) pe_int)) pa_nil)) pe_int) pe_int) pa_nil))))))))
  (pss_one (ps_ret (pv 2)))))
    , ?_⟩
  refine ⟨Nat.zero_le _, fun p hp => ?_⟩
  refine ⟨_, rfl, .inl ⟨_, rfl, ?_⟩⟩
  refine ⟨_, rfl, (n : Int), rfl, by omega, by omega, for_range (n := (n : Int).toNat) (fun i σ H' => ∃ (rest : Int) (ds : List Int) (y4 y5 : Option V), σ = [some (.int c), some (.int (n : Int)), some (.ref p), some (.int rest), y4, y5] ∧ ds.length = i ∧ H' p = some (.lst (ds.map V.int)) ∧ Same H H')
    ⟨c, [], none, none, rfl, rfl, upd_same, same_new hp _⟩ (fun i σ H1 hi hI => ?_) (fun σ H1 hI => ?_)⟩
  · obtain ⟨rest, ds, y4, y5, rfl, hl, hpp, hs⟩ := hI
    have room : (ds.map V.int).length < sizeLine := by
      rw [List.length_map, hl]
      exact small1000 (by omega)
    have put : ∀ v : Int, (upd H1 p (.lst (ds.map V.int ++ [.int v]))) p = some (.lst ((ds ++ [v]).map V.int)) := fun v => by
      rw [upd_same, List.map_append] <;> rfl
    have grow : ∀ v : Int, (ds ++ [v]).length = i + 1 := fun v => by
      rw [List.length_append, hl, List.length_singleton]
    refine ⟨_, rfl, _, _, rfl, rfl, .inr ⟨by decide, by decide⟩, _, rfl, _, _, rfl, rfl, .inr ⟨by decide, by decide⟩, _, _, rfl, rfl, _, _, rfl, rfl, .inl ⟨_, rfl, _, _, rfl, rfl, (by show (0 : Int) < _; decide), ?_⟩⟩
    generalize hm : ((c * 48271 + (0 + (i : Nat)) * 69621 + 1) % 2147483647 : Int) = m1
    have b1 : 0 ≤ m1 := by rw [← hm]; exact Int.emod_nonneg _ (by decide)
    have b2 : m1 < 2147483647 := by rw [← hm]; exact Int.emod_lt_of_pos _ (by decide)
    refine ⟨_, rfl, _, _, rfl, rfl, ⟨by decide, by decide, by decide⟩, _, _, rfl, rfl, _, rfl, ite2 (fun c1 => ?_) (fun c1 => ?_)⟩
    · refine ⟨_, rfl, .inl ⟨rfl, _, SqL.of hpp⟩, _, rfl, _, _, rfl, rfl, (by show (0 : Int) < _; decide), _, _, _, rfl, rfl, hpp, room, ?_⟩
      refine ⟨_, rfl, _, _, rfl, rfl, ⟨by decide, by decide⟩, ?_⟩
      exact ⟨_, _, _, _, rfl, grow _, put _, same_at hp hs _⟩
    · refine ⟨_, rfl, .inl ⟨rfl, _, SqL.of hpp⟩, _, rfl, _, rfl, _, _, rfl, rfl, .inl ⟨by omega, by omega⟩, _, rfl, _, _, rfl, rfl, .inr ⟨by decide, by decide⟩, _, _, rfl, rfl, .inl ⟨_, rfl, _, _, rfl, rfl, (by show (0 : Int) < _; decide), _, _, rfl, rfl, ⟨by decide, by decide⟩, _, _, _, rfl, rfl, hpp, room, ?_⟩⟩
      exact ⟨_, _, _, _, rfl, grow _, put _, same_at hp hs _⟩
  · obtain ⟨rest, ds, y4, y5, rfl, hl, hpp, hs⟩ := hI
    exact ⟨_, rfl, q p ds H1 hs hp (by omega) hpp⟩
end
end DP
namespace DP
open PySem PySem.Spec PyProof.Rows L2
theorem ten {ds : List Int} (h : ds.length = 10) : ∃ d0 d1 d2 d3 d4 d5 d6 d7 d8 d9, ds = [d0, d1, d2, d3, d4, d5, d6, d7, d8, d9] := match ds, h with | [_, _, _, _, _, _, _, _, _, _], _ => ⟨_, _, _, _, _, _, _, _, _, _, rfl⟩
theorem nine {ds : List Int} (h : ds.length = 9) : ∃ d0 d1 d2 d3 d4 d5 d6 d7 d8, ds = [d0, d1, d2, d3, d4, d5, d6, d7, d8] := match ds, h with | [_, _, _, _, _, _, _, _, _], _ => ⟨_, _, _, _, _, _, _, _, _, rfl⟩
theorem seven {ds : List Int} (h : ds.length = 7) : ∃ d0 d1 d2 d3 d4 d5 d6, ds = [d0, d1, d2, d3, d4, d5, d6] := match ds, h with | [_, _, _, _, _, _, _], _ => ⟨_, _, _, _, _, _, _, rfl⟩
theorem two_ {ds : List Int} (h : ds.length = 2) : ∃ d0 d1, ds = [d0, d1] := match ds, h with | [_, _], _ => ⟨_, _, rfl⟩
theorem satL0 (k st b l r c se : Int) : Str.ofString "satellite s" ++ num k ++ Str.ofString " store " ++ num st ++ Str.ofString " battery " ++ num b ++ Str.ofString " level " ++ num l ++ Str.ofString " reserve " ++ num r ++ Str.ofString " charge " ++ num c ++ Str.ofString " settle " ++ num se ++ Str.ofString " light" ++ Str.ofString "\n" =
    row (wSat ⟨nameC cS k, st, b, l, r, c, se, []⟩) ++ nl := by
  rw [row_sat0]
  rfl
theorem satL1 (k st b l r c se x y : Int) : Str.ofString "satellite s" ++ num k ++ Str.ofString " store " ++ num st ++ Str.ofString " battery " ++ num b ++ Str.ofString " level " ++ num l ++ Str.ofString " reserve " ++ num r ++ Str.ofString " charge " ++ num c ++ Str.ofString " settle " ++ num se ++ Str.ofString " light" ++ Str.ofString " " ++ num x ++ Str.ofString " " ++ num y ++ Str.ofString "\n" =
    row (wSat ⟨nameC cS k, st, b, l, r, c, se, [(x, y)]⟩) ++ nl := by
  rw [row_sat0, row_two (by exact List.cons_ne_nil _ _)]
  rfl
theorem satL2 (k st b l r c se x y x2 y2 : Int) : Str.ofString "satellite s" ++ num k ++ Str.ofString " store " ++ num st ++ Str.ofString " battery " ++ num b ++ Str.ofString " level " ++ num l ++ Str.ofString " reserve " ++ num r ++ Str.ofString " charge " ++ num c ++ Str.ofString " settle " ++ num se ++ Str.ofString " light" ++ Str.ofString " " ++ num x ++ Str.ofString " " ++ num y ++ Str.ofString " " ++ num x2 ++ Str.ofString " " ++ num y2 ++ Str.ofString "\n" =
    row (wSat ⟨nameC cS k, st, b, l, r, c, se, [(x, y), (x2, y2)]⟩) ++ nl := by
  rw [row_sat0, row_two (by exact List.cons_ne_nil _ _), row_two (by exact List.cons_ne_nil _ _)]
  rfl
section
variable {P : Program} {w : World} {K : PySem.W.Frag} {mg : Str → Option Value} {base : Heap}
def spSatC : Sp := fun vs H Q _ => ∃ (c : Int) (k : Nat), vs = [.int c, .int (k : Int)] ∧ k < 10 ∧ ∀ (z : SatD) (H' : Hp), Same H H' → SatOk 40 z → z.name = nameC cS (k : Int) → Q (.str (row (wSat z) ++ nl)) H'
set_option maxHeartbeats 16000000 in
theorem d_satC (B : Bt mg) (D_law_draws : DefOk P w K mg base CX0 1 "_law_draws" ["cell", "count"] spDrawsC) (A : At K mg "_law_satellite" s__law_satellite ["cell", "k"]) : DefOk P w K mg base CX0 2 "_law_satellite" ["cell", "k"] spSatC := by
  refine A.ok sc__law_satellite (fun vs H Q E h => ?_) (fun f cdv A outer s H vs Q E hr h => ?_)
  · obtain ⟨c, k, rfl, _⟩ := h
    rfl
  obtain ⟨c, k, rfl, hk, q⟩ := h
  refine ⟨_, pss_cons (ps_set (i := 2) sc__law_satellite.nd rfl (Or.inl rfl) (pe_f D_law_draws (hr.mono (by omega)) pass0 (pa_cons (pv 0) (pa_cons pe_int pa_nil))))
  (pss_cons (ps_set (i := 3) sc__law_satellite.nd rfl (Or.inl rfl) (pe_op op_add pe_int (pe_op op_mod (pe_ix ix_list (pv 2) pe_int (fun _ _ => rfl)) pe_int)))
  (pss_cons (ps_set (i := 4) sc__law_satellite.nd rfl (Or.inl rfl) (pe_op op_sub (pv 3) (pe_op op_mod (pe_ix ix_list (pv 2) pe_int (fun _ _ => rfl)) pe_int)))
  (pss_cons (ps_set (i := 5) sc__law_satellite.nd rfl (Or.inl rfl) (pe_op op_sub (pv 4) (pe_callB (call_min2 rfl) (by rfl) B.min (by decide +kernel) (pa_cons (pv 4) (pa_cons (pe_op op_mod (pe_ix ix_list (pv 2) pe_int (fun _ _ => rfl)) pe_int) pa_nil)))))
  (pss_cons (ps_set (i := 6) sc__law_satellite.nd rfl (Or.inl rfl) (pe_op op_add_str (pe_op op_add_str (pe_op op_add_str (pe_op op_add_str (pe_op op_add_str (pe_op op_add_str (pe_op op_add_str pe_str (pe_callTy (call_str_int) (by rfl) B.str (by decide +kernel) (pa_cons (pv 1) pa_nil))) pe_str) (pe_callTy (call_str_int) (by rfl) B.str (by decide +kernel) (pa_cons (pe_op op_mod (pe_ix ix_list (pv 2) pe_int (fun _ _ => rfl)) pe_int) pa_nil))) pe_str) (pe_callTy (call_str_int) (by rfl) B.str (by decide +kernel) (pa_cons (pv 3) pa_nil))) pe_str) (pe_callTy (call_str_int) (by rfl) B.str (by decide +kernel) (pa_cons (pv 4) pa_nil))))
  (pss_cons (ps_set (i := 6) sc__law_satellite.nd rfl (Or.inl rfl) (pe_op op_add_str (pe_op op_add_str (pe_op op_add_str (pe_op op_add_str (pe_op op_add_str (pe_op op_add_str (pe_op op_add_str (pv 6) pe_str) (pe_callTy (call_str_int) (by rfl) B.str (by decide +kernel) (pa_cons (pv 5) pa_nil))) pe_str) (pe_callTy (call_str_int) (by rfl) B.str (by decide +kernel) (pa_cons (pe_op op_mod (pe_ix ix_list (pv 2) pe_int (fun _ _ => rfl)) pe_int) pa_nil))) pe_str) (pe_callTy (call_str_int) (by rfl) B.str (by decide +kernel) (pa_cons (pe_op op_mod (pe_ix ix_list (pv 2) pe_int (fun _ _ => rfl)) pe_int) pa_nil))) pe_str))
  (pss_cons (ps_set (i := 7) sc__law_satellite.nd rfl (Or.inl rfl) (pe_op op_mod (pe_ix ix_list (pv 2) pe_int (fun _ _ => rfl)) pe_int))
  (pss_cons (ps_if (pt_cmpR op_gt (pe_op op_mod (pe_ix ix_list (pv 2) pe_int (fun _ _ => rfl)) pe_int) pe_int (nomark _))
      (pss_one (ps_set (i := 6) sc__law_satellite.nd rfl (Or.inl rfl) (pe_op op_add_str (pe_op op_add_str (pe_op op_add_str (pe_op op_add_str (pv 6) pe_str) (pe_callTy (call_str_int) (by rfl) B.str (by decide +kernel) (pa_cons (pv 7) pa_nil))) pe_str) (pe_callTy (call_str_int) (by rfl) B.str (by decide +kernel) (pa_cons (pe_op op_add (pe_op op_add (pv 7) pe_int) (pe_op op_mod (pe_ix ix_list (pv 2) pe_int (fun _ _ => rfl)) pe_int)) pa_nil)))))
      (pss_nil))
  (pss_cons (ps_if (pt_cmpR op_gt (pe_op op_mod (pe_ix ix_list (pv 2) pe_int (fun _ _ => rfl)) pe_int) pe_int (nomark _))
      (pss_one (ps_set (i := 6) sc__law_satellite.nd rfl (Or.inl rfl) (pe_op op_add_str (pe_op op_add_str (pe_op op_add_str (pe_op op_add_str (pv 6) pe_str) (pe_callTy (call_str_int) (by rfl) B.str (by decide +kernel) (pa_cons (pe_op op_add (pv 7) pe_int) pa_nil))) pe_str) (pe_callTy (call_str_int) (by rfl) B.str (by decide +kernel) (pa_cons (pe_op op_add (pe_op op_add (pv 7) pe_int) (pe_op op_mod (pe_ix ix_list (pv 2) pe_int (fun _ _ => rfl)) pe_int)) pa_nil)))))
      (pss_nil))
  (pss_one (ps_ret (pe_op op_add_str (pv 6) pe_str)))))))))))
    , ?_⟩
  refine ⟨_, rfl, c, 10, rfl, by decide, fun p ds H1 s1 np hl hp => ?_⟩
  obtain ⟨d0, d1, d2, d3, d4, d5, d6, d7, d8, d9, rfl⟩ := ten hl
  have e1 := tos_len (n := (k : Int)) (by omega) (by omega)
  have e2 := tos_len (n := d0 % 18) (by omega) (by omega)
  have e3 := tos_len (n := 8 + d1 % 20) (by omega) (by omega)
  have e4 := tos_len (n := 8 + d1 % 20 - d2 % 6) (by omega) (by omega)
  have hm : 0 ≤ (if d3 % 14 < 8 + d1 % 20 - d2 % 6 then d3 % 14 else 8 + d1 % 20 - d2 % 6) ∧ (if d3 % 14 < 8 + d1 % 20 - d2 % 6 then d3 % 14 else 8 + d1 % 20 - d2 % 6) ≤ 8 + d1 % 20 - d2 % 6 := by split <;> omega
  have e5 := tos_len (n := 8 + d1 % 20 - d2 % 6 - (if d3 % 14 < 8 + d1 % 20 - d2 % 6 then d3 % 14 else 8 + d1 % 20 - d2 % 6)) (by omega) (by omega)
  have e6 := tos_len (n := d4 % 4) (by omega) (by omega)
  have e7 := tos_len (n := d5 % 3) (by omega) (by omega)
  have e8 := tos_len (n := d6 % 12) (by omega) (by omega)
  have e9 := tos_len (n := d6 % 12 + 1 + d7 % 15) (by omega) (by omega)
  have e10 := tos_len (n := d6 % 12 + 18) (by omega) (by omega)
  have e11 := tos_len (n := d6 % 12 + 19 + d9 % 10) (by omega) (by omega)
  have nm := nameC_ok (c := cS) (x := 115) (by decide +kernel) (by decide) hk
  refine ⟨_, rfl, _, _, _, _, rfl, rfl, SqL.of hp, rfl, _, _, rfl, rfl, (by show (0 : Int) < _; decide), _, _, rfl, rfl, ?_⟩
  refine ⟨_, rfl, _, rfl, _, _, _, _, rfl, rfl, SqL.of hp, rfl, _, _, rfl, rfl, (by show (0 : Int) < _; decide), _, _, rfl, rfl, ?_⟩
  refine ⟨_, rfl, _, rfl, _, rfl, _, _, _, _, rfl, rfl, SqL.of hp, rfl, _, _, rfl, rfl, (by show (0 : Int) < _; decide), _, _, rfl, _, _, rfl, rfl, ?_⟩
  refine ⟨_, rfl, _, rfl, log_ok (by omega) (by omega), _, _, rfl, rfl, small (by simp only [len_app, lit_len, ll0, ll1, ll2, ll3, ll4, ll5, ll6, ll7, ll8, ll9, ll10, ll11, ll12, ll13, ll14, ll15, ll16, ll17, ll18, ll19, ll20, ll21, ll22, ll23, ll24, ll25, ll26]; omega), _, _, rfl, rfl, small (by simp only [len_app, lit_len, ll0, ll1, ll2, ll3, ll4, ll5, ll6, ll7, ll8, ll9, ll10, ll11, ll12, ll13, ll14, ll15, ll16, ll17, ll18, ll19, ll20, ll21, ll22, ll23, ll24, ll25, ll26]; omega), _, rfl, _, _, _, _, rfl, rfl, SqL.of hp, rfl, _, _, rfl, rfl, (by show (0 : Int) < _; decide), _, rfl, log_ok (by omega) (by omega), _, _, rfl, rfl, small (by simp only [len_app, lit_len, ll0, ll1, ll2, ll3, ll4, ll5, ll6, ll7, ll8, ll9, ll10, ll11, ll12, ll13, ll14, ll15, ll16, ll17, ll18, ll19, ll20, ll21, ll22, ll23, ll24, ll25, ll26]; omega), _, _, rfl, rfl, small (by simp only [len_app, lit_len, ll0, ll1, ll2, ll3, ll4, ll5, ll6, ll7, ll8, ll9, ll10, ll11, ll12, ll13, ll14, ll15, ll16, ll17, ll18, ll19, ll20, ll21, ll22, ll23, ll24, ll25, ll26]; omega), _, rfl, _, rfl, log_ok (by omega) (by omega), _, _, rfl, rfl, small (by simp only [len_app, lit_len, ll0, ll1, ll2, ll3, ll4, ll5, ll6, ll7, ll8, ll9, ll10, ll11, ll12, ll13, ll14, ll15, ll16, ll17, ll18, ll19, ll20, ll21, ll22, ll23, ll24, ll25, ll26]; omega), _, _, rfl, rfl, small (by simp only [len_app, lit_len, ll0, ll1, ll2, ll3, ll4, ll5, ll6, ll7, ll8, ll9, ll10, ll11, ll12, ll13, ll14, ll15, ll16, ll17, ll18, ll19, ll20, ll21, ll22, ll23, ll24, ll25, ll26]; omega), _, rfl, _, rfl, log_ok (by omega) (by omega), _, _, rfl, rfl, small (by simp only [len_app, lit_len, ll0, ll1, ll2, ll3, ll4, ll5, ll6, ll7, ll8, ll9, ll10, ll11, ll12, ll13, ll14, ll15, ll16, ll17, ll18, ll19, ll20, ll21, ll22, ll23, ll24, ll25, ll26]; omega), ?_⟩
  refine ⟨_, rfl, _, _, rfl, rfl, small (by simp only [len_app, lit_len, ll0, ll1, ll2, ll3, ll4, ll5, ll6, ll7, ll8, ll9, ll10, ll11, ll12, ll13, ll14, ll15, ll16, ll17, ll18, ll19, ll20, ll21, ll22, ll23, ll24, ll25, ll26]; omega), _, rfl, _, rfl, log_ok (by omega) (by omega), _, _, rfl, rfl, small (by simp only [len_app, lit_len, ll0, ll1, ll2, ll3, ll4, ll5, ll6, ll7, ll8, ll9, ll10, ll11, ll12, ll13, ll14, ll15, ll16, ll17, ll18, ll19, ll20, ll21, ll22, ll23, ll24, ll25, ll26]; omega), _, _, rfl, rfl, small (by simp only [len_app, lit_len, ll0, ll1, ll2, ll3, ll4, ll5, ll6, ll7, ll8, ll9, ll10, ll11, ll12, ll13, ll14, ll15, ll16, ll17, ll18, ll19, ll20, ll21, ll22, ll23, ll24, ll25, ll26]; omega), _, rfl, _, _, _, _, rfl, rfl, SqL.of hp, rfl, _, _, rfl, rfl, (by show (0 : Int) < _; decide), _, rfl, log_ok (by omega) (by omega), _, _, rfl, rfl, small (by simp only [len_app, lit_len, ll0, ll1, ll2, ll3, ll4, ll5, ll6, ll7, ll8, ll9, ll10, ll11, ll12, ll13, ll14, ll15, ll16, ll17, ll18, ll19, ll20, ll21, ll22, ll23, ll24, ll25, ll26]; omega), _, _, rfl, rfl, small (by simp only [len_app, lit_len, ll0, ll1, ll2, ll3, ll4, ll5, ll6, ll7, ll8, ll9, ll10, ll11, ll12, ll13, ll14, ll15, ll16, ll17, ll18, ll19, ll20, ll21, ll22, ll23, ll24, ll25, ll26]; omega), _, rfl, _, _, _, _, rfl, rfl, SqL.of hp, rfl, _, _, rfl, rfl, (by show (0 : Int) < _; decide), _, rfl, log_ok (by omega) (by omega), _, _, rfl, rfl, small (by simp only [len_app, lit_len, ll0, ll1, ll2, ll3, ll4, ll5, ll6, ll7, ll8, ll9, ll10, ll11, ll12, ll13, ll14, ll15, ll16, ll17, ll18, ll19, ll20, ll21, ll22, ll23, ll24, ll25, ll26]; omega), _, _, rfl, rfl, small (by simp only [len_app, lit_len, ll0, ll1, ll2, ll3, ll4, ll5, ll6, ll7, ll8, ll9, ll10, ll11, ll12, ll13, ll14, ll15, ll16, ll17, ll18, ll19, ll20, ll21, ll22, ll23, ll24, ll25, ll26]; omega), ?_⟩
  refine ⟨_, rfl, _, _, _, _, rfl, rfl, SqL.of hp, rfl, _, _, rfl, rfl, (by show (0 : Int) < _; decide), ?_⟩
  have mk : ∀ l, LightOk 0 40 l → SatOk 40 ⟨nameC cS (k : Int), d0 % 18, 8 + d1 % 20, 8 + d1 % 20 - d2 % 6, 8 + d1 % 20 - d2 % 6 - (if d3 % 14 < 8 + d1 % 20 - d2 % 6 then d3 % 14 else 8 + d1 % 20 - d2 % 6), d4 % 4, d5 % 3, l⟩ := fun l hl =>
    ⟨nm, by constructor <;> (dsimp only; omega), by constructor <;> (dsimp only; omega), by constructor <;> (dsimp only; omega), by constructor <;> (dsimp only; omega), by constructor <;> (dsimp only; omega), by constructor <;> (dsimp only; omega), hl⟩
  refine ⟨_, rfl, _, _, _, _, rfl, rfl, SqL.of hp, rfl, _, _, rfl, rfl, (by show (0 : Int) < _; decide), _, _, rfl, rfl, _, rfl, ite2 (fun c1 => ?_) (fun c1 => ?_)⟩
  · have c1' : 0 < d8 % 3 := of_decide_eq_true c1
    refine ⟨_, rfl, _, _, rfl, rfl, small (by simp only [len_app, lit_len, ll0, ll1, ll2, ll3, ll4, ll5, ll6, ll7, ll8, ll9, ll10, ll11, ll12, ll13, ll14, ll15, ll16, ll17, ll18, ll19, ll20, ll21, ll22, ll23, ll24, ll25, ll26]; omega), _, rfl, _, rfl, log_ok (by omega) (by omega), _, _, rfl, rfl, small (by simp only [len_app, lit_len, ll0, ll1, ll2, ll3, ll4, ll5, ll6, ll7, ll8, ll9, ll10, ll11, ll12, ll13, ll14, ll15, ll16, ll17, ll18, ll19, ll20, ll21, ll22, ll23, ll24, ll25, ll26]; omega), _, _, rfl, rfl, small (by simp only [len_app, lit_len, ll0, ll1, ll2, ll3, ll4, ll5, ll6, ll7, ll8, ll9, ll10, ll11, ll12, ll13, ll14, ll15, ll16, ll17, ll18, ll19, ll20, ll21, ll22, ll23, ll24, ll25, ll26]; omega), _, rfl, _, _, rfl, rfl, _, rfl, _, _, _, _, rfl, rfl, SqL.of hp, rfl, _, _, rfl, rfl, (by show (0 : Int) < _; decide), _, _, rfl, rfl, _, rfl, log_ok (by omega) (by omega), _, _, rfl, rfl, small (by simp only [len_app, lit_len, ll0, ll1, ll2, ll3, ll4, ll5, ll6, ll7, ll8, ll9, ll10, ll11, ll12, ll13, ll14, ll15, ll16, ll17, ll18, ll19, ll20, ll21, ll22, ll23, ll24, ll25, ll26]; omega), ?_⟩
    refine ⟨_, rfl, _, _, _, _, rfl, rfl, SqL.of hp, rfl, _, _, rfl, rfl, (by show (0 : Int) < _; decide), _, _, rfl, rfl, _, rfl, ite2 (fun c2 => ?_) (fun c2 => ?_)⟩
    · refine ⟨_, rfl, _, _, rfl, rfl, small (by simp only [len_app, lit_len, ll0, ll1, ll2, ll3, ll4, ll5, ll6, ll7, ll8, ll9, ll10, ll11, ll12, ll13, ll14, ll15, ll16, ll17, ll18, ll19, ll20, ll21, ll22, ll23, ll24, ll25, ll26]; omega), _, rfl, _, _, rfl, rfl, _, rfl, log_ok (by omega) (by omega), _, _, rfl, rfl, small (by simp only [len_app, lit_len, ll0, ll1, ll2, ll3, ll4, ll5, ll6, ll7, ll8, ll9, ll10, ll11, ll12, ll13, ll14, ll15, ll16, ll17, ll18, ll19, ll20, ll21, ll22, ll23, ll24, ll25, ll26]; omega), _, _, rfl, rfl, small (by simp only [len_app, lit_len, ll0, ll1, ll2, ll3, ll4, ll5, ll6, ll7, ll8, ll9, ll10, ll11, ll12, ll13, ll14, ll15, ll16, ll17, ll18, ll19, ll20, ll21, ll22, ll23, ll24, ll25, ll26]; omega), _, rfl, _, _, rfl, rfl, _, rfl, _, _, _, _, rfl, rfl, SqL.of hp, rfl, _, _, rfl, rfl, (by show (0 : Int) < _; decide), _, _, rfl, rfl, _, rfl, log_ok (by omega) (by omega), _, _, rfl, rfl, small (by simp only [len_app, lit_len, ll0, ll1, ll2, ll3, ll4, ll5, ll6, ll7, ll8, ll9, ll10, ll11, ll12, ll13, ll14, ll15, ll16, ll17, ll18, ll19, ll20, ll21, ll22, ll23, ll24, ll25, ll26]; omega), ?_⟩
      refine ⟨_, rfl, _, _, rfl, rfl, small (by simp only [len_app, lit_len, ll0, ll1, ll2, ll3, ll4, ll5, ll6, ll7, ll8, ll9, ll10, ll11, ll12, ll13, ll14, ll15, ll16, ll17, ll18, ll19, ll20, ll21, ll22, ll23, ll24, ll25, ll26]; omega), ?_⟩
      refine (congrArg (fun u => Q (.str u) H1) (satL2 _ _ _ _ _ _ _ _ _ _ _)).mpr (q _ H1 s1 (mk _ ⟨?_, ?_, ?_, ?_, ?_, ?_, True.intro⟩) rfl)
      all_goals (dsimp only; omega)
    · refine ⟨_, rfl, _, _, rfl, rfl, small (by simp only [len_app, lit_len, ll0, ll1, ll2, ll3, ll4, ll5, ll6, ll7, ll8, ll9, ll10, ll11, ll12, ll13, ll14, ll15, ll16, ll17, ll18, ll19, ll20, ll21, ll22, ll23, ll24, ll25, ll26]; omega), ?_⟩
      refine (congrArg (fun u => Q (.str u) H1) (satL1 _ _ _ _ _ _ _ _ _)).mpr (q _ H1 s1 (mk _ ⟨?_, ?_, ?_, True.intro⟩) rfl)
      all_goals (dsimp only; omega)
  · have c1' : ¬ 0 < d8 % 3 := fun z => c1 (decide_eq_true z)
    refine ⟨_, rfl, _, _, _, _, rfl, rfl, SqL.of hp, rfl, _, _, rfl, rfl, (by show (0 : Int) < _; decide), _, _, rfl, rfl, _, rfl, iteF' (decide_eq_false (by show ¬ ((1 : Int) < d8 % 3); omega)) ?_⟩
    refine ⟨_, rfl, _, _, rfl, rfl, small (by simp only [len_app, lit_len, ll0, ll1, ll2, ll3, ll4, ll5, ll6, ll7, ll8, ll9, ll10, ll11, ll12, ll13, ll14, ll15, ll16, ll17, ll18, ll19, ll20, ll21, ll22, ll23, ll24, ll25, ll26]; omega), ?_⟩
    exact (congrArg (fun u => Q (.str u) H1) (satL0 _ _ _ _ _ _ _)).mpr (q _ H1 s1 (mk _ True.intro) rfl)
/-- a recording that some satellite of so many makes -/
structure RecC (n : Nat) (r : RecD) : Prop where
  sat : r.sat < n
  earliest : 0 ≤ r.earliest ∧ r.earliest ≤ 19
  latest : r.earliest ≤ r.latest ∧ r.latest ≤ r.earliest + 2
  length : 1 ≤ r.length ∧ r.length ≤ 5
  size : 0 ≤ r.size ∧ r.size ≤ 8
  energy : 0 ≤ r.energy ∧ r.energy ≤ 6
  worth : 1 ≤ r.worth ∧ r.worth ≤ 9
  rank : 1 ≤ r.rank ∧ r.rank ≤ 3
  deadline : 34 ≤ r.deadline ∧ r.deadline ≤ 40
def spRecC : Sp := fun vs H Q _ => ∃ (c : Int) (k n : Nat), vs = [.int c, .int (k : Int), .int (n : Int)] ∧ k < 10 ∧ 0 < n ∧ n ≤ 3 ∧ ∀ (z : RecD) (H' : Hp), Same H H' → RecC n z → z.name = nameC cR (k : Int) → Q (.str (row (wRecN (nameC cS (z.sat : Int)) z) ++ nl)) H'
set_option maxHeartbeats 16000000 in
theorem d_recC (B : Bt mg) (D_law_draws : DefOk P w K mg base CX0 1 "_law_draws" ["cell", "count"] spDrawsC) (A : At K mg "_law_recording" s__law_recording ["cell", "k", "satellites"]) : DefOk P w K mg base CX0 2 "_law_recording" ["cell", "k", "satellites"] spRecC := by
  refine A.ok sc__law_recording (fun vs H Q E h => ?_) (fun f cdv A outer s H vs Q E hr h => ?_)
  · obtain ⟨c, k, n, rfl, _⟩ := h
    rfl
  obtain ⟨c, k, n, rfl, hk, hn, hn3, q⟩ := h
  refine ⟨_, pss_cons (ps_set (i := 3) sc__law_recording.nd rfl (Or.inl rfl) (pe_f D_law_draws (hr.mono (by omega)) pass0 (pa_cons (pv 0) (pa_cons pe_int pa_nil))))
  (pss_cons (ps_set (i := 4) sc__law_recording.nd rfl (Or.inl rfl) (pe_op op_mod (pe_ix ix_list (pv 3) pe_int (fun _ _ => rfl)) pe_int))
  (pss_cons (ps_set (i := 5) sc__law_recording.nd rfl (Or.inl rfl) (pe_op op_add_str (pe_op op_add_str (pe_op op_add_str (pe_op op_add_str (pe_op op_add_str (pe_op op_add_str pe_str (pe_callTy (call_str_int) (by rfl) B.str (by decide +kernel) (pa_cons (pv 1) pa_nil))) pe_str) (pe_callTy (call_str_int) (by rfl) B.str (by decide +kernel) (pa_cons (pe_op op_mod (pe_ix ix_list (pv 3) pe_int (fun _ _ => rfl)) (pv 2)) pa_nil))) pe_str) (pe_callTy (call_str_int) (by rfl) B.str (by decide +kernel) (pa_cons (pv 4) pa_nil))) pe_str))
  (pss_cons (ps_set (i := 5) sc__law_recording.nd rfl (Or.inl rfl) (pe_op op_add_str (pe_op op_add_str (pe_op op_add_str (pe_op op_add_str (pe_op op_add_str (pv 5) (pe_callTy (call_str_int) (by rfl) B.str (by decide +kernel) (pa_cons (pe_op op_add (pv 4) (pe_op op_mod (pe_ix ix_list (pv 3) pe_int (fun _ _ => rfl)) pe_int)) pa_nil))) pe_str) (pe_callTy (call_str_int) (by rfl) B.str (by decide +kernel) (pa_cons (pe_op op_add pe_int (pe_op op_mod (pe_ix ix_list (pv 3) pe_int (fun _ _ => rfl)) pe_int)) pa_nil))) pe_str) (pe_callTy (call_str_int) (by rfl) B.str (by decide +kernel) (pa_cons (pe_op op_mod (pe_ix ix_list (pv 3) pe_int (fun _ _ => rfl)) pe_int) pa_nil))))
  (pss_cons (ps_set (i := 5) sc__law_recording.nd rfl (Or.inl rfl) (pe_op op_add_str (pe_op op_add_str (pe_op op_add_str (pe_op op_add_str (pe_op op_add_str (pe_op op_add_str (pv 5) pe_str) (pe_callTy (call_str_int) (by rfl) B.str (by decide +kernel) (pa_cons (pe_op op_mod (pe_ix ix_list (pv 3) pe_int (fun _ _ => rfl)) pe_int) pa_nil))) pe_str) (pe_callTy (call_str_int) (by rfl) B.str (by decide +kernel) (pa_cons (pe_op op_add pe_int (pe_op op_mod (pe_ix ix_list (pv 3) pe_int (fun _ _ => rfl)) pe_int)) pa_nil))) pe_str) (pe_callTy (call_str_int) (by rfl) B.str (by decide +kernel) (pa_cons (pe_op op_add pe_int (pe_op op_mod (pe_ix ix_list (pv 3) pe_int (fun _ _ => rfl)) pe_int)) pa_nil))))
  (pss_one (ps_ret (pe_op op_add_str (pe_op op_add_str (pe_op op_add_str (pv 5) pe_str) (pe_callTy (call_str_int) (by rfl) B.str (by decide +kernel) (pa_cons (pe_op op_sub pe_int (pe_op op_mul (pe_op op_mod (pe_ix ix_list (pv 3) pe_int (fun _ _ => rfl)) pe_int) (pe_op op_mod (pe_ix ix_list (pv 3) pe_int (fun _ _ => rfl)) pe_int))) pa_nil))) pe_str)))))))
    , ?_⟩
  refine ⟨_, rfl, c, 9, rfl, by decide, fun p ds H1 s1 np hl hp => ?_⟩
  obtain ⟨d0, d1, d2, d3, d4, d5, d6, d7, d8, rfl⟩ := nine hl
  have m1 : 0 ≤ d0 % (n : Int) := Int.emod_nonneg _ (by omega)
  have m2 : d0 % (n : Int) < (n : Int) := Int.emod_lt_of_pos _ (by omega)
  have m3 : 0 ≤ d8 % 4 * (d8 % 3) := Int.mul_nonneg (by omega) (by omega)
  have m4 : d8 % 4 * (d8 % 3) ≤ 3 * 2 := Int.mul_le_mul (by omega) (by omega) (by omega) (by decide)
  have e1 := tos_len (n := (k : Int)) (by omega) (by omega)
  have e2 := tos_len (n := d0 % (n : Int)) m1 (by omega)
  have e3 := tos_len (n := d1 % 20) (by omega) (by omega)
  have e4 := tos_len (n := d1 % 20 + d2 % 3) (by omega) (by omega)
  have e5 := tos_len (n := 1 + d3 % 5) (by omega) (by omega)
  have e6 := tos_len (n := d4 % 9) (by omega) (by omega)
  have e7 := tos_len (n := d5 % 7) (by omega) (by omega)
  have e8 := tos_len (n := 1 + d6 % 9) (by omega) (by omega)
  have e9 := tos_len (n := 1 + d7 % 3) (by omega) (by omega)
  have e10 := tos_len (n := 40 - d8 % 4 * (d8 % 3)) (by omega) (by omega)
  refine ⟨_, rfl, _, _, _, _, rfl, rfl, SqL.of hp, rfl, _, _, rfl, rfl, (by show (0 : Int) < _; decide), ?_⟩
  refine ⟨_, rfl, _, rfl, log_ok (by omega) (by omega), _, _, rfl, rfl, small (by simp only [len_app, lit_len, ll0, ll1, ll2, ll3, ll4, ll5, ll6, ll7, ll8, ll9, ll10, ll11, ll12, ll13, ll14, ll15, ll16, ll17, ll18, ll19, ll20, ll21, ll22, ll23, ll24, ll25, ll26]; omega), _, _, rfl, rfl, small (by simp only [len_app, lit_len, ll0, ll1, ll2, ll3, ll4, ll5, ll6, ll7, ll8, ll9, ll10, ll11, ll12, ll13, ll14, ll15, ll16, ll17, ll18, ll19, ll20, ll21, ll22, ll23, ll24, ll25, ll26]; omega), _, rfl, _, _, _, _, rfl, rfl, SqL.of hp, rfl, _, rfl, _, _, rfl, rfl, (by show (0 : Int) < (n : Int); omega), _, rfl, log_ok m1 (by omega), _, _, rfl, rfl, small (by simp only [len_app, lit_len, ll0, ll1, ll2, ll3, ll4, ll5, ll6, ll7, ll8, ll9, ll10, ll11, ll12, ll13, ll14, ll15, ll16, ll17, ll18, ll19, ll20, ll21, ll22, ll23, ll24, ll25, ll26]; omega), _, _, rfl, rfl, small (by simp only [len_app, lit_len, ll0, ll1, ll2, ll3, ll4, ll5, ll6, ll7, ll8, ll9, ll10, ll11, ll12, ll13, ll14, ll15, ll16, ll17, ll18, ll19, ll20, ll21, ll22, ll23, ll24, ll25, ll26]; omega), _, rfl, _, rfl, log_ok (by omega) (by omega), _, _, rfl, rfl, small (by simp only [len_app, lit_len, ll0, ll1, ll2, ll3, ll4, ll5, ll6, ll7, ll8, ll9, ll10, ll11, ll12, ll13, ll14, ll15, ll16, ll17, ll18, ll19, ll20, ll21, ll22, ll23, ll24, ll25, ll26]; omega), _, _, rfl, rfl, small (by simp only [len_app, lit_len, ll0, ll1, ll2, ll3, ll4, ll5, ll6, ll7, ll8, ll9, ll10, ll11, ll12, ll13, ll14, ll15, ll16, ll17, ll18, ll19, ll20, ll21, ll22, ll23, ll24, ll25, ll26]; omega), ?_⟩
  refine ⟨_, rfl, _, rfl, _, rfl, _, _, _, _, rfl, rfl, SqL.of hp, rfl, _, _, rfl, rfl, (by show (0 : Int) < _; decide), _, _, rfl, rfl, _, rfl, log_ok (by omega) (by omega), _, _, rfl, rfl, small (by simp only [len_app, lit_len, ll0, ll1, ll2, ll3, ll4, ll5, ll6, ll7, ll8, ll9, ll10, ll11, ll12, ll13, ll14, ll15, ll16, ll17, ll18, ll19, ll20, ll21, ll22, ll23, ll24, ll25, ll26]; omega), _, _, rfl, rfl, small (by simp only [len_app, lit_len, ll0, ll1, ll2, ll3, ll4, ll5, ll6, ll7, ll8, ll9, ll10, ll11, ll12, ll13, ll14, ll15, ll16, ll17, ll18, ll19, ll20, ll21, ll22, ll23, ll24, ll25, ll26]; omega), _, rfl, _, _, _, _, rfl, rfl, SqL.of hp, rfl, _, _, rfl, rfl, (by show (0 : Int) < _; decide), _, _, rfl, rfl, _, rfl, log_ok (by omega) (by omega), _, _, rfl, rfl, small (by simp only [len_app, lit_len, ll0, ll1, ll2, ll3, ll4, ll5, ll6, ll7, ll8, ll9, ll10, ll11, ll12, ll13, ll14, ll15, ll16, ll17, ll18, ll19, ll20, ll21, ll22, ll23, ll24, ll25, ll26]; omega), _, _, rfl, rfl, small (by simp only [len_app, lit_len, ll0, ll1, ll2, ll3, ll4, ll5, ll6, ll7, ll8, ll9, ll10, ll11, ll12, ll13, ll14, ll15, ll16, ll17, ll18, ll19, ll20, ll21, ll22, ll23, ll24, ll25, ll26]; omega), _, rfl, _, _, _, _, rfl, rfl, SqL.of hp, rfl, _, _, rfl, rfl, (by show (0 : Int) < _; decide), _, rfl, log_ok (by omega) (by omega), _, _, rfl, rfl, small (by simp only [len_app, lit_len, ll0, ll1, ll2, ll3, ll4, ll5, ll6, ll7, ll8, ll9, ll10, ll11, ll12, ll13, ll14, ll15, ll16, ll17, ll18, ll19, ll20, ll21, ll22, ll23, ll24, ll25, ll26]; omega), ?_⟩
  refine ⟨_, rfl, _, _, rfl, rfl, small (by simp only [len_app, lit_len, ll0, ll1, ll2, ll3, ll4, ll5, ll6, ll7, ll8, ll9, ll10, ll11, ll12, ll13, ll14, ll15, ll16, ll17, ll18, ll19, ll20, ll21, ll22, ll23, ll24, ll25, ll26]; omega), _, rfl, _, _, _, _, rfl, rfl, SqL.of hp, rfl, _, _, rfl, rfl, (by show (0 : Int) < _; decide), _, rfl, log_ok (by omega) (by omega), _, _, rfl, rfl, small (by simp only [len_app, lit_len, ll0, ll1, ll2, ll3, ll4, ll5, ll6, ll7, ll8, ll9, ll10, ll11, ll12, ll13, ll14, ll15, ll16, ll17, ll18, ll19, ll20, ll21, ll22, ll23, ll24, ll25, ll26]; omega), _, _, rfl, rfl, small (by simp only [len_app, lit_len, ll0, ll1, ll2, ll3, ll4, ll5, ll6, ll7, ll8, ll9, ll10, ll11, ll12, ll13, ll14, ll15, ll16, ll17, ll18, ll19, ll20, ll21, ll22, ll23, ll24, ll25, ll26]; omega), _, rfl, _, _, _, _, rfl, rfl, SqL.of hp, rfl, _, _, rfl, rfl, (by show (0 : Int) < _; decide), _, _, rfl, rfl, _, rfl, log_ok (by omega) (by omega), _, _, rfl, rfl, small (by simp only [len_app, lit_len, ll0, ll1, ll2, ll3, ll4, ll5, ll6, ll7, ll8, ll9, ll10, ll11, ll12, ll13, ll14, ll15, ll16, ll17, ll18, ll19, ll20, ll21, ll22, ll23, ll24, ll25, ll26]; omega), _, _, rfl, rfl, small (by simp only [len_app, lit_len, ll0, ll1, ll2, ll3, ll4, ll5, ll6, ll7, ll8, ll9, ll10, ll11, ll12, ll13, ll14, ll15, ll16, ll17, ll18, ll19, ll20, ll21, ll22, ll23, ll24, ll25, ll26]; omega), _, rfl, _, _, _, _, rfl, rfl, SqL.of hp, rfl, _, _, rfl, rfl, (by show (0 : Int) < _; decide), _, _, rfl, rfl, _, rfl, log_ok (by omega) (by omega), _, _, rfl, rfl, small (by simp only [len_app, lit_len, ll0, ll1, ll2, ll3, ll4, ll5, ll6, ll7, ll8, ll9, ll10, ll11, ll12, ll13, ll14, ll15, ll16, ll17, ll18, ll19, ll20, ll21, ll22, ll23, ll24, ll25, ll26]; omega), ?_⟩
  refine ⟨_, rfl, _, _, rfl, rfl, small (by simp only [len_app, lit_len, ll0, ll1, ll2, ll3, ll4, ll5, ll6, ll7, ll8, ll9, ll10, ll11, ll12, ll13, ll14, ll15, ll16, ll17, ll18, ll19, ll20, ll21, ll22, ll23, ll24, ll25, ll26]; omega), _, rfl, _, _, _, _, rfl, rfl, SqL.of hp, rfl, _, _, rfl, rfl, (by show (0 : Int) < _; decide), _, rfl, _, _, _, _, rfl, rfl, SqL.of hp, rfl, _, _, rfl, rfl, (by show (0 : Int) < _; decide), _, _, rfl, rfl, .inl ⟨by omega, by omega⟩, _, _, rfl, rfl, _, rfl, log_ok (by omega) (by omega), _, _, rfl, rfl, small (by simp only [len_app, lit_len, ll0, ll1, ll2, ll3, ll4, ll5, ll6, ll7, ll8, ll9, ll10, ll11, ll12, ll13, ll14, ll15, ll16, ll17, ll18, ll19, ll20, ll21, ll22, ll23, ll24, ll25, ll26]; omega), _, _, rfl, rfl, small (by simp only [len_app, lit_len, ll0, ll1, ll2, ll3, ll4, ll5, ll6, ll7, ll8, ll9, ll10, ll11, ll12, ll13, ll14, ll15, ll16, ll17, ll18, ll19, ll20, ll21, ll22, ll23, ll24, ll25, ll26]; omega), ?_⟩
  refine (congrArg (fun u => Q (.str u) H1) (row_recC _ _ _ _ _ _ _ _ _ _)).mpr ?_
  have e : d0 % (n : Int) = (((d0 % (n : Int)).toNat : Nat) : Int) := by omega
  have g := q ⟨nameC cR (k : Int), (d0 % (n : Int)).toNat, d1 % 20, d1 % 20 + d2 % 3, 1 + d3 % 5, d4 % 9, d5 % 7, 1 + d6 % 9, 1 + d7 % 3, 40 - d8 % 4 * (d8 % 3)⟩ H1 s1 ⟨by dsimp only; omega, by constructor <;> (dsimp only; omega), by constructor <;> (dsimp only; omega), by constructor <;> (dsimp only; omega), by constructor <;> (dsimp only; omega), by constructor <;> (dsimp only; omega), by constructor <;> (dsimp only; omega), by constructor <;> (dsimp only; omega), by constructor <;> (dsimp only; omega)⟩ rfl
  have g2 : Q (.str (row (wRecN (nameC cS (((d0 % (n : Int)).toNat : Nat) : Int)) ⟨nameC cR (k : Int), (d0 % (n : Int)).toNat, d1 % 20, d1 % 20 + d2 % 3, 1 + d3 % 5, d4 % 9, d5 % 7, 1 + d6 % 9, 1 + d7 % 3, 40 - d8 % 4 * (d8 % 3)⟩) ++ nl)) H1 := g
  rw [← e] at g2
  exact g2
structure PasC (n m : Nat) (r : PasD) : Prop where
  sat : r.sat < n
  sta : r.sta < m
  first : 5 ≤ r.first ∧ r.first ≤ 31
  fin : r.first + 1 ≤ r.fin ∧ r.fin ≤ r.first + 6
  room : 0 ≤ r.room ∧ r.room ≤ 15
  energy : 0 ≤ r.energy ∧ r.energy ≤ 4
  fee : 0 ≤ r.fee ∧ r.fee ≤ 5
def spPasC : Sp := fun vs H Q _ => ∃ (c : Int) (k n m : Nat), vs = [.int c, .int (k : Int), .int (n : Int), .int (m : Int)] ∧ k < 10 ∧ 0 < n ∧ n ≤ 3 ∧ 0 < m ∧ m ≤ 3 ∧
  ∀ (z : PasD) (H' : Hp), Same H H' → PasC n m z → z.name = nameC cP (k : Int) → Q (.str (row (wPasN (nameC cS (z.sat : Int)) (nameC cT (z.sta : Int)) z) ++ nl)) H'
set_option maxHeartbeats 16000000 in
theorem d_pasC (B : Bt mg) (D_law_draws : DefOk P w K mg base CX0 1 "_law_draws" ["cell", "count"] spDrawsC) (A : At K mg "_law_pass" s__law_pass ["cell", "k", "satellites", "stations"]) : DefOk P w K mg base CX0 2 "_law_pass" ["cell", "k", "satellites", "stations"] spPasC := by
  refine A.ok sc__law_pass (fun vs H Q E h => ?_) (fun f cdv A outer s H vs Q E hr h => ?_)
  · obtain ⟨c, k, n, m, rfl, _⟩ := h
    rfl
  obtain ⟨c, k, n, m, rfl, hk, hn, hn3, hm, hm3, q⟩ := h
  refine ⟨_, pss_cons (ps_set (i := 4) sc__law_pass.nd rfl (Or.inl rfl) (pe_f D_law_draws (hr.mono (by omega)) pass0 (pa_cons (pv 0) (pa_cons pe_int pa_nil))))
  (pss_cons (ps_set (i := 5) sc__law_pass.nd rfl (Or.inl rfl) (pe_op op_add pe_int (pe_op op_mod (pe_ix ix_list (pv 4) pe_int (fun _ _ => rfl)) pe_int)))
  (pss_cons (ps_set (i := 6) sc__law_pass.nd rfl (Or.inl rfl) (pe_op op_add_str (pe_op op_add_str (pe_op op_add_str (pe_op op_add_str (pe_op op_add_str (pe_op op_add_str pe_str (pe_callTy (call_str_int) (by rfl) B.str (by decide +kernel) (pa_cons (pv 1) pa_nil))) pe_str) (pe_callTy (call_str_int) (by rfl) B.str (by decide +kernel) (pa_cons (pe_op op_mod (pe_ix ix_list (pv 4) pe_int (fun _ _ => rfl)) (pv 2)) pa_nil))) pe_str) (pe_callTy (call_str_int) (by rfl) B.str (by decide +kernel) (pa_cons (pe_op op_mod (pe_ix ix_list (pv 4) pe_int (fun _ _ => rfl)) (pv 3)) pa_nil))) pe_str))
  (pss_cons (ps_set (i := 6) sc__law_pass.nd rfl (Or.inl rfl) (pe_op op_add_str (pe_op op_add_str (pe_op op_add_str (pe_op op_add_str (pe_op op_add_str (pv 6) (pe_callTy (call_str_int) (by rfl) B.str (by decide +kernel) (pa_cons (pv 5) pa_nil))) pe_str) (pe_callTy (call_str_int) (by rfl) B.str (by decide +kernel) (pa_cons (pe_op op_add (pe_op op_add (pv 5) pe_int) (pe_op op_mod (pe_ix ix_list (pv 4) pe_int (fun _ _ => rfl)) pe_int)) pa_nil))) pe_str) (pe_callTy (call_str_int) (by rfl) B.str (by decide +kernel) (pa_cons (pe_op op_mod (pe_ix ix_list (pv 4) pe_int (fun _ _ => rfl)) pe_int) pa_nil))))
  (pss_one (ps_ret (pe_op op_add_str (pe_op op_add_str (pe_op op_add_str (pe_op op_add_str (pe_op op_add_str (pv 6) pe_str) (pe_callTy (call_str_int) (by rfl) B.str (by decide +kernel) (pa_cons (pe_op op_mod (pe_ix ix_list (pv 4) pe_int (fun _ _ => rfl)) pe_int) pa_nil))) pe_str) (pe_callTy (call_str_int) (by rfl) B.str (by decide +kernel) (pa_cons (pe_op op_mod (pe_ix ix_list (pv 4) pe_int (fun _ _ => rfl)) pe_int) pa_nil))) pe_str))))))
    , ?_⟩
  refine ⟨_, rfl, c, 7, rfl, by decide, fun p ds H1 s1 np hl hp => ?_⟩
  obtain ⟨d0, d1, d2, d3, d4, d5, d6, rfl⟩ := seven hl
  have m1 : 0 ≤ d0 % (n : Int) := Int.emod_nonneg _ (by omega)
  have m2 : d0 % (n : Int) < (n : Int) := Int.emod_lt_of_pos _ (by omega)
  have m3 : 0 ≤ d1 % (m : Int) := Int.emod_nonneg _ (by omega)
  have m4 : d1 % (m : Int) < (m : Int) := Int.emod_lt_of_pos _ (by omega)
  have e1 := tos_len (n := (k : Int)) (by omega) (by omega)
  have e2 := tos_len (n := d0 % (n : Int)) m1 (by omega)
  have e3 := tos_len (n := d1 % (m : Int)) m3 (by omega)
  have e4 := tos_len (n := 5 + d2 % 27) (by omega) (by omega)
  have e5 := tos_len (n := 5 + d2 % 27 + 1 + d3 % 6) (by omega) (by omega)
  have e6 := tos_len (n := d4 % 16) (by omega) (by omega)
  have e7 := tos_len (n := d5 % 5) (by omega) (by omega)
  have e8 := tos_len (n := d6 % 6) (by omega) (by omega)
  refine ⟨_, rfl, _, _, _, _, rfl, rfl, SqL.of hp, rfl, _, _, rfl, rfl, (by show (0 : Int) < _; decide), _, _, rfl, rfl, ?_⟩
  refine ⟨_, rfl, _, rfl, log_ok (by omega) (by omega), _, _, rfl, rfl, small (by simp only [len_app, lit_len, ll0, ll1, ll2, ll3, ll4, ll5, ll6, ll7, ll8, ll9, ll10, ll11, ll12, ll13, ll14, ll15, ll16, ll17, ll18, ll19, ll20, ll21, ll22, ll23, ll24, ll25, ll26]; omega), _, _, rfl, rfl, small (by simp only [len_app, lit_len, ll0, ll1, ll2, ll3, ll4, ll5, ll6, ll7, ll8, ll9, ll10, ll11, ll12, ll13, ll14, ll15, ll16, ll17, ll18, ll19, ll20, ll21, ll22, ll23, ll24, ll25, ll26]; omega), _, rfl, _, _, _, _, rfl, rfl, SqL.of hp, rfl, _, rfl, _, _, rfl, rfl, (by show (0 : Int) < (n : Int); omega), _, rfl, log_ok m1 (by omega), _, _, rfl, rfl, small (by simp only [len_app, lit_len, ll0, ll1, ll2, ll3, ll4, ll5, ll6, ll7, ll8, ll9, ll10, ll11, ll12, ll13, ll14, ll15, ll16, ll17, ll18, ll19, ll20, ll21, ll22, ll23, ll24, ll25, ll26]; omega), _, _, rfl, rfl, small (by simp only [len_app, lit_len, ll0, ll1, ll2, ll3, ll4, ll5, ll6, ll7, ll8, ll9, ll10, ll11, ll12, ll13, ll14, ll15, ll16, ll17, ll18, ll19, ll20, ll21, ll22, ll23, ll24, ll25, ll26]; omega), _, rfl, _, _, _, _, rfl, rfl, SqL.of hp, rfl, _, rfl, _, _, rfl, rfl, (by show (0 : Int) < (m : Int); omega), _, rfl, log_ok m3 (by omega), _, _, rfl, rfl, small (by simp only [len_app, lit_len, ll0, ll1, ll2, ll3, ll4, ll5, ll6, ll7, ll8, ll9, ll10, ll11, ll12, ll13, ll14, ll15, ll16, ll17, ll18, ll19, ll20, ll21, ll22, ll23, ll24, ll25, ll26]; omega), _, _, rfl, rfl, small (by simp only [len_app, lit_len, ll0, ll1, ll2, ll3, ll4, ll5, ll6, ll7, ll8, ll9, ll10, ll11, ll12, ll13, ll14, ll15, ll16, ll17, ll18, ll19, ll20, ll21, ll22, ll23, ll24, ll25, ll26]; omega), ?_⟩
  refine ⟨_, rfl, _, rfl, _, rfl, log_ok (by omega) (by omega), _, _, rfl, rfl, small (by simp only [len_app, lit_len, ll0, ll1, ll2, ll3, ll4, ll5, ll6, ll7, ll8, ll9, ll10, ll11, ll12, ll13, ll14, ll15, ll16, ll17, ll18, ll19, ll20, ll21, ll22, ll23, ll24, ll25, ll26]; omega), _, _, rfl, rfl, small (by simp only [len_app, lit_len, ll0, ll1, ll2, ll3, ll4, ll5, ll6, ll7, ll8, ll9, ll10, ll11, ll12, ll13, ll14, ll15, ll16, ll17, ll18, ll19, ll20, ll21, ll22, ll23, ll24, ll25, ll26]; omega), _, rfl, _, _, rfl, rfl, _, rfl, _, _, _, _, rfl, rfl, SqL.of hp, rfl, _, _, rfl, rfl, (by show (0 : Int) < _; decide), _, _, rfl, rfl, _, rfl, log_ok (by omega) (by omega), _, _, rfl, rfl, small (by simp only [len_app, lit_len, ll0, ll1, ll2, ll3, ll4, ll5, ll6, ll7, ll8, ll9, ll10, ll11, ll12, ll13, ll14, ll15, ll16, ll17, ll18, ll19, ll20, ll21, ll22, ll23, ll24, ll25, ll26]; omega), _, _, rfl, rfl, small (by simp only [len_app, lit_len, ll0, ll1, ll2, ll3, ll4, ll5, ll6, ll7, ll8, ll9, ll10, ll11, ll12, ll13, ll14, ll15, ll16, ll17, ll18, ll19, ll20, ll21, ll22, ll23, ll24, ll25, ll26]; omega), _, rfl, _, _, _, _, rfl, rfl, SqL.of hp, rfl, _, _, rfl, rfl, (by show (0 : Int) < _; decide), _, rfl, log_ok (by omega) (by omega), _, _, rfl, rfl, small (by simp only [len_app, lit_len, ll0, ll1, ll2, ll3, ll4, ll5, ll6, ll7, ll8, ll9, ll10, ll11, ll12, ll13, ll14, ll15, ll16, ll17, ll18, ll19, ll20, ll21, ll22, ll23, ll24, ll25, ll26]; omega), ?_⟩
  refine ⟨_, rfl, _, _, rfl, rfl, small (by simp only [len_app, lit_len, ll0, ll1, ll2, ll3, ll4, ll5, ll6, ll7, ll8, ll9, ll10, ll11, ll12, ll13, ll14, ll15, ll16, ll17, ll18, ll19, ll20, ll21, ll22, ll23, ll24, ll25, ll26]; omega), _, rfl, _, _, _, _, rfl, rfl, SqL.of hp, rfl, _, _, rfl, rfl, (by show (0 : Int) < _; decide), _, rfl, log_ok (by omega) (by omega), _, _, rfl, rfl, small (by simp only [len_app, lit_len, ll0, ll1, ll2, ll3, ll4, ll5, ll6, ll7, ll8, ll9, ll10, ll11, ll12, ll13, ll14, ll15, ll16, ll17, ll18, ll19, ll20, ll21, ll22, ll23, ll24, ll25, ll26]; omega), _, _, rfl, rfl, small (by simp only [len_app, lit_len, ll0, ll1, ll2, ll3, ll4, ll5, ll6, ll7, ll8, ll9, ll10, ll11, ll12, ll13, ll14, ll15, ll16, ll17, ll18, ll19, ll20, ll21, ll22, ll23, ll24, ll25, ll26]; omega), _, rfl, _, _, _, _, rfl, rfl, SqL.of hp, rfl, _, _, rfl, rfl, (by show (0 : Int) < _; decide), _, rfl, log_ok (by omega) (by omega), _, _, rfl, rfl, small (by simp only [len_app, lit_len, ll0, ll1, ll2, ll3, ll4, ll5, ll6, ll7, ll8, ll9, ll10, ll11, ll12, ll13, ll14, ll15, ll16, ll17, ll18, ll19, ll20, ll21, ll22, ll23, ll24, ll25, ll26]; omega), _, _, rfl, rfl, small (by simp only [len_app, lit_len, ll0, ll1, ll2, ll3, ll4, ll5, ll6, ll7, ll8, ll9, ll10, ll11, ll12, ll13, ll14, ll15, ll16, ll17, ll18, ll19, ll20, ll21, ll22, ll23, ll24, ll25, ll26]; omega), ?_⟩
  refine (congrArg (fun u => Q (.str u) H1) (row_pasC _ _ _ _ _ _ _ _)).mpr ?_
  have e : d0 % (n : Int) = (((d0 % (n : Int)).toNat : Nat) : Int) := by omega
  have e' : d1 % (m : Int) = (((d1 % (m : Int)).toNat : Nat) : Int) := by omega
  have g := q ⟨nameC cP (k : Int), (d0 % (n : Int)).toNat, (d1 % (m : Int)).toNat, 5 + d2 % 27, 5 + d2 % 27 + 1 + d3 % 6, d4 % 16, d5 % 5, d6 % 6⟩ H1 s1 ⟨by dsimp only; omega, by dsimp only; omega, by constructor <;> (dsimp only; omega), by constructor <;> (dsimp only; omega), by constructor <;> (dsimp only; omega), by constructor <;> (dsimp only; omega), by constructor <;> (dsimp only; omega)⟩ rfl
  have g2 : Q (.str (row (wPasN (nameC cS (((d0 % (n : Int)).toNat : Nat) : Int)) (nameC cT (((d1 % (m : Int)).toNat : Nat) : Int)) ⟨nameC cP (k : Int), (d0 % (n : Int)).toNat, (d1 % (m : Int)).toNat, 5 + d2 % 27, 5 + d2 % 27 + 1 + d3 % 6, d4 % 16, d5 % 5, d6 % 6⟩) ++ nl)) H1 := g
  rw [← e, ← e'] at g2
  exact g2
end
end DP
namespace DP
open PySem PySem.Spec PyProof.Rows L2
abbrev s__law_text : Stmt := topS 62
theorem sc__law_text : FnScope ["script", "recordings", "passes", "satellites", "stations", "text", "k", "n"] ["script", "recordings", "passes"] (defScope s__law_text) := ⟨rfl, rfl, rfl, by decide +kernel, rfl, by decide +kernel, by decide +kernel⟩
abbrev s__law_world : Stmt := topS 63
theorem sc__law_world : FnScope ["script", "size"] ["script"] (defScope s__law_world) := ⟨rfl, rfl, rfl, by decide +kernel, rfl, by decide +kernel, by decide +kernel⟩
structure CG (W : WorldD) : Prop where
  ok : WorldOk W
  hor : W.horizon = 40
  nS : 1 ≤ W.sats.length ∧ W.sats.length ≤ 2
  nT : 1 ≤ W.stas.length ∧ W.stas.length ≤ 2
  nR : 1 ≤ W.recs.length ∧ W.recs.length ≤ 5
  nP : 1 ≤ W.pass.length ∧ W.pass.length ≤ 4
  rcs : ∀ r ∈ W.recs, RecC W.sats.length r
  pss : ∀ p ∈ W.pass, PasC W.sats.length W.stas.length p
theorem wRecN_wd {sn : Str} (hs : NameOk sn) {n : Nat} {r : RecD} (hn : NameOk r.name) (k : RecC n r) : ∀ x ∈ wRecN sn r, WdOk x := by
  have h1 := k.earliest; have h2 := k.latest; have h3 := k.length; have h4 := k.size; have h5 := k.energy; have h6 := k.worth; have h7 := k.rank; have h8 := k.deadline
  exact all_cons (by unfold WdOk; decide +kernel) (all_cons hn.wd (all_cons (by unfold WdOk; decide +kernel) (all_cons hs.wd
    (all_cons (by unfold WdOk; decide +kernel) (all_cons (num_wd (by omega) (by omega)) (all_cons (by unfold WdOk; decide +kernel) (all_cons (num_wd (by omega) (by omega)) (all_cons (by unfold WdOk; decide +kernel) (all_cons (num_wd (by omega) (by omega))
    (all_cons (by unfold WdOk; decide +kernel) (all_cons (num_wd (by omega) (by omega)) (all_cons (by unfold WdOk; decide +kernel) (all_cons (num_wd (by omega) (by omega)) (all_cons (by unfold WdOk; decide +kernel) (all_cons (num_wd (by omega) (by omega))
    (all_cons (by unfold WdOk; decide +kernel) (all_cons (num_wd (by omega) (by omega)) (all_cons (by unfold WdOk; decide +kernel) (all_cons (num_wd (by omega) (by omega)) all_nil)))))))))))))))))))
theorem wPasN_wd {sn tn : Str} (hs : NameOk sn) (ht : NameOk tn) {n m : Nat} {p : PasD} (hn : NameOk p.name) (k : PasC n m p) : ∀ x ∈ wPasN sn tn p, WdOk x := by
  have h1 := k.first; have h2 := k.fin; have h3 := k.room; have h4 := k.energy; have h5 := k.fee
  exact all_cons (by unfold WdOk; decide +kernel) (all_cons hn.wd (all_cons (by unfold WdOk; decide +kernel) (all_cons hs.wd (all_cons (by unfold WdOk; decide +kernel) (all_cons ht.wd
    (all_cons (by unfold WdOk; decide +kernel) (all_cons (num_wd (by omega) (by omega)) (all_cons (by unfold WdOk; decide +kernel) (all_cons (num_wd (by omega) (by omega)) (all_cons (by unfold WdOk; decide +kernel) (all_cons (num_wd (by omega) (by omega))
    (all_cons (by unfold WdOk; decide +kernel) (all_cons (num_wd (by omega) (by omega)) (all_cons (by unfold WdOk; decide +kernel) (all_cons (num_wd (by omega) (by omega)) all_nil)))))))))))))))
/-- rows of a text so far -/
structure RowsI (rows : List (List Str)) (n : Nat) : Prop where
  len : rows.length = n
  short : ∀ l ∈ rows, (row l).length ≤ 1700
theorem RowsI.snoc {rows : List (List Str)} {n : Nat} (h : RowsI rows n) {ws : List Str} (hw : (row ws).length ≤ 1700) : RowsI (rows ++ [ws]) (n + 1) :=
  ⟨by rw [List.length_append, h.len]; rfl, fun l hl => (List.mem_append.mp hl).elim (h.short l) fun z => by rw [List.mem_singleton.mp z]; exact hw⟩
theorem RowsI.glue {rows : List (List Str)} {n : Nat} (h : RowsI rows n) (hn : n ≤ 20) : (glue (rows.map row)).length ≤ 40000 := by
  have g := glue_len (rows := rows.map row) (m := 1700) fun r hr => by
    obtain ⟨l, hl, rfl⟩ := List.mem_map.mp hr
    exact h.short l hl
  rw [List.length_map, h.len] at g
  have := Nat.mul_le_mul (by omega : n + 1 ≤ 21) (Nat.le_refl (1700 + 1))
  omega
theorem RowsI.fits {rows : List (List Str)} {n : Nat} (h : RowsI rows n) (hn : n ≤ 20) {ws : List Str} (hw : (row ws).length ≤ 1700) : (DP.glue (rows.map row)).length + (row ws ++ nl).length ≤ sizeLine := by
  have g := h.glue hn
  have e : nl.length = 1 := by decide +kernel
  rw [len_app, e]
  exact big (by omega)
theorem short_of {ws : List Str} (h : ∀ w ∈ ws, WdOk w) (hl : ws.length ≤ 100) : (row ws).length ≤ 1700 := by
  have := row_len h
  omega
def gR (z : RecD) : List Str := wRecN (nameC cS (z.sat : Int)) z
def gP (z : PasD) : List Str := wPasN (nameC cS (z.sat : Int)) (nameC cT (z.sta : Int)) z
theorem sat_short {z : SatD} (h : SatOk 40 z) : (row (wSat z)).length ≤ 1700 := by
  refine short_of (wSat_wd (by decide) h) ?_
  have h1 := h.light.len (by decide)
  have h3 := lightW_len z.light
  have h4 : (wSat z).length = 15 + (lightW z.light).length := by
    unfold wSat
    rw [List.length_append]
    rfl
  omega
theorem text40 : Str.ofString "horizon 40\n" = glue ([wHor 40].map row) := by decide +kernel
theorem hor_short : (row (wHor 40)).length ≤ 1700 := by decide +kernel
theorem nameS_ok {k : Nat} (h : k < 10) : NameOk (nameC cS (k : Int)) := nameC_ok (x := 115) (by decide +kernel) (by decide) h
theorem nameT_ok {k : Nat} (h : k < 10) : NameOk (nameC cT (k : Int)) := nameC_ok (x := 116) (by decide +kernel) (by decide) h
theorem nameR_ok {k : Nat} (h : k < 10) : NameOk (nameC cR (k : Int)) := nameC_ok (x := 114) (by decide +kernel) (by decide) h
theorem nameP_ok {k : Nat} (h : k < 10) : NameOk (nameC cP (k : Int)) := nameC_ok (x := 112) (by decide +kernel) (by decide) h
theorem nam_step {c : Str} {ns : List Str} {i : Nat} {u : Str} (h : Nam c ns) (hl : ns.length = i) (hu : u = nameC c (i : Nat)) : Nam c (ns ++ [u]) := by
  subst hl hu
  exact h.snoc
theorem worldC_ok {sats : List SatD} {stas : List StaD} {recs : List RecD} {pass : List PasD} (n1 : 1 ≤ sats.length ∧ sats.length ≤ 2) (n2 : 1 ≤ stas.length ∧ stas.length ≤ 2) (n3 : 1 ≤ recs.length ∧ recs.length ≤ 5) (n4 : 1 ≤ pass.length ∧ pass.length ≤ 4)
    (o1 : ∀ z ∈ sats, SatOk 40 z) (m1 : Nam cS (sats.map (·.name))) (o2 : ∀ z ∈ stas, StaOk z) (m2 : Nam cT (stas.map (·.name))) (o3 : ∀ z ∈ recs, RecC sats.length z ∧ NameOk z.name) (m3 : Nam cR (recs.map (·.name)))
    (o4 : ∀ z ∈ pass, PasC sats.length stas.length z ∧ NameOk z.name) (m4 : Nam cP (pass.map (·.name))) : CG ⟨40, sats, stas, recs, pass⟩ := by
  refine ⟨⟨(by show (1 : Int) ≤ 40 ∧ (40 : Int) ≤ 500; decide), ?_, ?_, ?_, ?_, m1.nodup, m2.nodup, m3.nodup, m4.nodup, o1, o2, fun r hr => ?_, fun p hp => ?_⟩, rfl, n1, n2, n3, n4, fun r hr => (o3 r hr).1, fun p hp => (o4 p hp).1⟩
  · dsimp only; omega
  · dsimp only; omega
  · dsimp only; omega
  · dsimp only; omega
  · obtain ⟨k, hn⟩ := o3 r hr
    have h1 := k.earliest; have h2 := k.latest; have h3 := k.length; have h4 := k.size; have h5 := k.energy; have h6 := k.worth; have h7 := k.rank; have h8 := k.deadline
    exact ⟨hn, k.sat, by dsimp only; omega, by dsimp only; omega, by dsimp only; omega, by omega, by omega, by omega, by omega, by dsimp only; omega⟩
  · obtain ⟨k, hn⟩ := o4 p hp
    have h1 := k.first; have h2 := k.fin; have h3 := k.room; have h4 := k.energy; have h5 := k.fee
    exact ⟨hn, k.sat, k.sta, by dsimp only; omega, by dsimp only; omega, by omega, by omega, by omega⟩
theorem linesC {sats : List SatD} {stas : List StaD} {recs : List RecD} {pass : List PasD} (m1 : Nam cS (sats.map (·.name))) (m2 : Nam cT (stas.map (·.name))) (o3 : ∀ z ∈ recs, z.sat < sats.length) (o4 : ∀ z ∈ pass, z.sat < sats.length ∧ z.sta < stas.length) :
    linesW ⟨40, sats, stas, recs, pass⟩ = [wHor 40] ++ sats.map wSat ++ stas.map wSta ++ recs.map gR ++ pass.map gP := by
  have eS : ∀ i, i < sats.length → satN ⟨40, sats, stas, recs, pass⟩ i = nameC cS (i : Nat) := fun i hi => by
    have h := m1.at (i := i) (by rw [List.length_map]; exact hi)
    show ((sats.map (·.name))[i]?).getD Str.empty = _
    rw [h]
    rfl
  have eT : ∀ i, i < stas.length → staN ⟨40, sats, stas, recs, pass⟩ i = nameC cT (i : Nat) := fun i hi => by
    have h := m2.at (i := i) (by rw [List.length_map]; exact hi)
    show ((stas.map (·.name))[i]?).getD Str.empty = _
    rw [h]
    rfl
  have h3 : recs.map (wRec ⟨40, sats, stas, recs, pass⟩) = recs.map gR := List.map_congr_left fun r hr => by
    show wRecN (satN _ r.sat) r = wRecN (nameC cS (r.sat : Nat)) r
    rw [eS _ (o3 r hr)]
  have h4 : pass.map (wPas ⟨40, sats, stas, recs, pass⟩) = pass.map gP := List.map_congr_left fun r hr => by
    show wPasN (satN _ r.sat) (staN _ r.sta) r = wPasN (nameC cS (r.sat : Nat)) (nameC cT (r.sta : Nat)) r
    rw [eS _ (o4 r hr).1, eT _ (o4 r hr).2]
  show wHor 40 :: (sats.map wSat ++ stas.map wSta ++ recs.map (wRec _) ++ pass.map (wPas _)) = _
  rw [h3, h4]
  rfl
section
variable {P : Program} {w : World} {K : PySem.W.Frag} {mg : Str → Option Value} {base : Heap}
def spTextC (K : PySem.W.Frag) : Sp := fun vs H Q _ => ∃ (a : Addr) (ns : List Int) (R N : Nat), vs = [.ref a, .int (R : Int), .int (N : Int)] ∧ SqL K H a (ns.map V.int) ∧ (1 ≤ R ∧ R ≤ 5) ∧ (1 ≤ N ∧ N ≤ 4) ∧ ∀ (W : WorldD) (H' : Hp), Same H H' → CG W → W.recs.length = R → W.pass.length = N → Q (.str (textW W)) H'
set_option maxHeartbeats 16000000 in
theorem d_textC (B : Bt mg) (D_law_cell : DefOk P w K mg base CX0 1 "_law_cell" ["script", "k"] (spCell K)) (D_law_draws : DefOk P w K mg base CX0 1 "_law_draws" ["cell", "count"] spDrawsC) (D_law_satellite : DefOk P w K mg base CX0 2 "_law_satellite" ["cell", "k"] spSatC)
    (D_law_recording : DefOk P w K mg base CX0 2 "_law_recording" ["cell", "k", "satellites"] spRecC) (D_law_pass : DefOk P w K mg base CX0 2 "_law_pass" ["cell", "k", "satellites", "stations"] spPasC)
    (A : At K mg "_law_text" s__law_text ["script", "recordings", "passes"]) : DefOk P w K mg base CX0 3 "_law_text" ["script", "recordings", "passes"] (spTextC K) := by
  refine A.ok sc__law_text (fun vs H Q E h => ?_) (fun f cdv A outer s H vs Q E hr h => ?_)
  · obtain ⟨a, ns, R, N, rfl, _⟩ := h
    rfl
  obtain ⟨a, ns, R, N, rfl, hS, hR, hN, q⟩ := h
  refine ⟨_, pss_cons (ps_set (i := 3) sc__law_text.nd rfl (Or.inl rfl) (pe_op op_add pe_int (pe_op op_mod (pe_callTy (call_int1) (by rfl) B.int (by decide +kernel) (pa_cons (pe_f D_law_cell (hr.mono (by omega)) pass0 (pa_cons (pv 0) (pa_cons pe_int pa_nil))) pa_nil)) pe_int)))
  (pss_cons (ps_set (i := 4) sc__law_text.nd rfl (Or.inl rfl) (pe_op op_add pe_int (pe_op op_mod (pe_op op_fdiv (pe_callTy (call_int1) (by rfl) B.int (by decide +kernel) (pa_cons (pe_f D_law_cell (hr.mono (by omega)) pass0 (pa_cons (pv 0) (pa_cons pe_int pa_nil))) pa_nil)) pe_int) pe_int)))
  (pss_cons (ps_set (i := 5) sc__law_text.nd rfl (Or.inl rfl) pe_str)
  (pss_cons (ps_for PassesOwn.never rfl (pi_range1 (by rfl) B.range (pa_cons (pv 3) pa_nil)) (pg_name (i := 6) sc__law_text.nd rfl (Or.inl rfl))
      (pss_one (ps_set (i := 5) sc__law_text.nd rfl (Or.inl rfl) (pe_op op_add_str (pv 5) (pe_f D_law_satellite (hr.mono (by omega)) pass0 (pa_cons (pe_f D_law_cell (hr.mono (by omega)) pass0 (pa_cons (pv 0) (pa_cons (pe_op op_add pe_int (pv 6)) pa_nil))) (pa_cons (pv 6) pa_nil)))))))
  (pss_cons (ps_for PassesOwn.never rfl (pi_range1 (by rfl) B.range (pa_cons (pv 4) pa_nil)) (pg_name (i := 6) sc__law_text.nd rfl (Or.inl rfl))
      (pss_cons (ps_set (i := 7) sc__law_text.nd rfl (Or.inl rfl) (pe_f D_law_draws (hr.mono (by omega)) pass0 (pa_cons (pe_f D_law_cell (hr.mono (by omega)) pass0 (pa_cons (pv 0) (pa_cons (pe_op op_add pe_int (pv 6)) pa_nil))) (pa_cons pe_int pa_nil))))
      (pss_one (ps_set (i := 5) sc__law_text.nd rfl (Or.inl rfl) (pe_op op_add_str (pe_op op_add_str (pe_op op_add_str (pe_op op_add_str (pe_op op_add_str (pe_op op_add_str (pe_op op_add_str (pv 5) pe_str) (pe_callTy (call_str_int) (by rfl) B.str (by decide +kernel) (pa_cons (pv 6) pa_nil))) pe_str) (pe_callTy (call_str_int) (by rfl) B.str (by decide +kernel) (pa_cons (pe_op op_add pe_int (pe_op op_mod (pe_ix ix_list (pv 7) pe_int (fun _ _ => rfl)) pe_int)) pa_nil))) pe_str) (pe_callTy (call_str_int) (by rfl) B.str (by decide +kernel) (pa_cons (pe_op op_mod (pe_ix ix_list (pv 7) pe_int (fun _ _ => rfl)) pe_int) pa_nil))) pe_str)))))
  (pss_cons (ps_for PassesOwn.never rfl (pi_range1 (by rfl) B.range (pa_cons (pv 1) pa_nil)) (pg_name (i := 6) sc__law_text.nd rfl (Or.inl rfl))
      (pss_one (ps_set (i := 5) sc__law_text.nd rfl (Or.inl rfl) (pe_op op_add_str (pv 5) (pe_f D_law_recording (hr.mono (by omega)) pass0 (pa_cons (pe_f D_law_cell (hr.mono (by omega)) pass0 (pa_cons (pv 0) (pa_cons (pe_op op_add pe_int (pv 6)) pa_nil))) (pa_cons (pv 6) (pa_cons (pv 3) pa_nil))))))))
  (pss_cons (ps_for PassesOwn.never rfl (pi_range1 (by rfl) B.range (pa_cons (pv 2) pa_nil)) (pg_name (i := 6) sc__law_text.nd rfl (Or.inl rfl))
      (pss_one (ps_set (i := 5) sc__law_text.nd rfl (Or.inl rfl) (pe_op op_add_str (pv 5) (pe_f D_law_pass (hr.mono (by omega)) pass0 (pa_cons (pe_f D_law_cell (hr.mono (by omega)) pass0 (pa_cons (pv 0) (pa_cons (pe_op op_add pe_int (pv 6)) pa_nil))) (pa_cons (pv 6) (pa_cons (pv 3) (pa_cons (pv 4) pa_nil)))))))))
  (pss_one (ps_ret (pv 5)))))))))
    , ?_⟩
  refine ⟨_, rfl, a, ns, 0, rfl, hS, by decide, fun u => .inl ⟨_, rfl, _, _, rfl, rfl, (by show (0 : Int) < _; decide), _, _, rfl, rfl, ?_⟩⟩
  refine ⟨_, rfl, a, ns, 0, rfl, hS, by decide, fun u2 => .inl ⟨_, rfl, _, _, rfl, rfl, ⟨by decide, by decide⟩, _, _, rfl, rfl, (by show (0 : Int) < _; decide), _, _, rfl, rfl, ?_⟩⟩
  obtain ⟨S, eS⟩ : ∃ S : Nat, 1 + u % 2 = (S : Int) := ⟨(1 + u % 2).toNat, by omega⟩
  obtain ⟨T, eT⟩ : ∃ T : Nat, 1 + u2 / 2 % 2 = (T : Int) := ⟨(1 + u2 / 2 % 2).toNat, by omega⟩
  have bS : 1 ≤ S ∧ S ≤ 2 := by omega
  have bT : 1 ≤ T ∧ T ≤ 2 := by omega
  refine ⟨_, rfl, _, rfl, by omega, by omega, for_range (lo := 0) (n := (1 + u % 2).toNat) (fun i σ H' => ∃ (sats : List SatD) (y6 y7 : Option V), σ = [some (.ref a), some (.int (R : Int)), some (.int (N : Int)), some (.int (1 + u % 2)), some (.int (1 + u2 / 2 % 2)), some (.str (glue (([wHor 40] ++ sats.map wSat).map row))), y6, y7] ∧ sats.length = i ∧
    RowsI ([wHor 40] ++ sats.map wSat) (1 + i) ∧ (∀ z ∈ sats, SatOk 40 z) ∧ Nam cS (sats.map (·.name)) ∧ Same H H') ⟨[], none, none, by rw [text40]; rfl, rfl, ⟨rfl, fun l hl => by rw [List.mem_singleton.mp hl]; exact hor_short⟩, fun z hz => (nomatch hz), Nam.nil _, Same.refl _⟩ (fun i σ H1 hi hI => ?_) (fun σ H1 hI => ?_)⟩
  · obtain ⟨sats, y6, y7, rfl, hl, hr1, ho, hm, hs⟩ := hI
    refine ⟨_, rfl, _, rfl, _, rfl, _, _, rfl, rfl, a, ns, 1 + (0 + (i : Int)), rfl, hs.seq hS, by omega, fun c => ⟨_, rfl, c, i, by rw [Int.zero_add]; rfl, by omega, fun z H2 s2 zok zn => ?_⟩⟩
    have sh := sat_short zok
    refine ⟨_, _, rfl, rfl, hr1.fits (by omega) sh, ?_⟩
    refine ⟨sats ++ [z], some (.int (0 + (i : Int))), y7, ?_, by rw [List.length_append, hl]; rfl, ?_, fun x hx => (List.mem_append.mp hx).elim (ho x) fun e => by rw [List.mem_singleton.mp e]; exact zok, ?_, hs.trans s2⟩
    · show _ = ([some (.ref a), some (.int (R : Int)), some (.int (N : Int)), some (.int (1 + u % 2)), some (.int (1 + u2 / 2 % 2)), some (.str (glue (([wHor 40] ++ (sats ++ [z]).map wSat).map row))), _, _] : L2.St)
      rw [List.map_append (f := wSat), ← List.append_assoc, show [z].map wSat = [wSat z] from rfl, ← glue_add]
      rfl
    · rw [List.map_append, ← List.append_assoc]
      exact hr1.snoc sh
    · rw [List.map_append]
      exact nam_step hm (by rw [List.length_map, hl]) zn
  obtain ⟨sats, y6, y7, rfl, hl1, hr1, ho1, hm1, hs1⟩ := hI
  have l1 : sats.length = S := by omega
  refine ⟨_, rfl, _, rfl, by omega, by omega, for_range (lo := 0) (n := (1 + u2 / 2 % 2).toNat) (fun i σ H' => ∃ (stas : List StaD) (y6 y7 : Option V), σ = [some (.ref a), some (.int (R : Int)), some (.int (N : Int)), some (.int (1 + u % 2)), some (.int (1 + u2 / 2 % 2)), some (.str (glue (([wHor 40] ++ sats.map wSat ++ stas.map wSta).map row))), y6, y7] ∧ stas.length = i ∧
    RowsI ([wHor 40] ++ sats.map wSat ++ stas.map wSta) (1 + S + i) ∧ (∀ z ∈ stas, StaOk z) ∧ Nam cT (stas.map (·.name)) ∧ Same H H') ⟨[], _, _, by rw [show (([] : List StaD).map wSta) = [] from rfl, List.append_nil] <;> rfl, rfl, by rw [show (([] : List StaD).map wSta) = [] from rfl, List.append_nil]; have := hr1.len; exact ⟨by rw [this]; omega, hr1.short⟩, fun z hz => (nomatch hz), Nam.nil _, hs1⟩ (fun i σ H2 hi hI => ?_) (fun σ H2 hI => ?_)⟩
  · obtain ⟨stas, y6, y7, rfl, hl, hr2, ho, hm, hs⟩ := hI
    refine ⟨_, rfl, _, rfl, _, _, rfl, rfl, a, ns, 3 + (0 + (i : Int)), rfl, hs.seq hS, by omega, fun c => ⟨c, 2, rfl, by decide, fun p ds H3 s3 np hl3 hp => ?_⟩⟩
    obtain ⟨d0, d1, rfl⟩ := two_ hl3
    have e1 := tos_len (n := 0 + (i : Int)) (by omega) (by omega)
    have e2 := tos_len (n := 1 + d0 % 2) (by omega) (by omega)
    have e3 := tos_len (n := d1 % 4) (by omega) (by omega)
    have gl := hr2.glue (by omega)
    have nm := nameT_ok (k := i) (by omega)
    have ex : Int.ofNat i = 0 + (i : Int) := by rw [Int.zero_add]; rfl
    have zok : StaOk ⟨nameC cT (i : Int), 1 + d0 % 2, d1 % 4⟩ := ⟨nm, by constructor <;> (dsimp only; omega), by constructor <;> (dsimp only; omega)⟩
    have sh : (row (wSta ⟨nameC cT (i : Int), 1 + d0 % 2, d1 % 4⟩)).length ≤ 1700 := short_of (wSta_wd zok) (by show 6 ≤ 100; decide)
    refine ⟨_, rfl, _, _, rfl, rfl, big (by rw [lit_len, ll24]; omega), _, rfl, _, rfl, log_ok (by omega) (by omega), _, _, rfl, rfl, big (by simp only [len_app, lit_len, ll0, ll1, ll2, ll3, ll4, ll5, ll6, ll7, ll8, ll9, ll10, ll11, ll12, ll13, ll14, ll15, ll16, ll17, ll18, ll19, ll20, ll21, ll22, ll23, ll24, ll25, ll26]; omega), _, _, rfl, rfl, big (by simp only [len_app, lit_len, ll0, ll1, ll2, ll3, ll4, ll5, ll6, ll7, ll8, ll9, ll10, ll11, ll12, ll13, ll14, ll15, ll16, ll17, ll18, ll19, ll20, ll21, ll22, ll23, ll24, ll25, ll26]; omega), _, rfl, _, _, _, _, rfl, rfl, SqL.of hp, rfl, _, _, rfl, rfl, (by show (0 : Int) < _; decide), _, _, rfl, rfl, _, rfl, log_ok (by omega) (by omega), _, _, rfl, rfl, big (by simp only [len_app, lit_len, ll0, ll1, ll2, ll3, ll4, ll5, ll6, ll7, ll8, ll9, ll10, ll11, ll12, ll13, ll14, ll15, ll16, ll17, ll18, ll19, ll20, ll21, ll22, ll23, ll24, ll25, ll26]; omega), _, _, rfl, rfl, big (by simp only [len_app, lit_len, ll0, ll1, ll2, ll3, ll4, ll5, ll6, ll7, ll8, ll9, ll10, ll11, ll12, ll13, ll14, ll15, ll16, ll17, ll18, ll19, ll20, ll21, ll22, ll23, ll24, ll25, ll26]; omega), _, rfl, _, _, _, _, rfl, rfl, SqL.of hp, rfl, _, _, rfl, rfl, (by show (0 : Int) < _; decide), _, rfl, log_ok (by omega) (by omega), _, _, rfl, rfl, big (by simp only [len_app, lit_len, ll0, ll1, ll2, ll3, ll4, ll5, ll6, ll7, ll8, ll9, ll10, ll11, ll12, ll13, ll14, ll15, ll16, ll17, ll18, ll19, ll20, ll21, ll22, ll23, ll24, ll25, ll26]; omega), _, _, rfl, rfl, big (by simp only [len_app, lit_len, ll0, ll1, ll2, ll3, ll4, ll5, ll6, ll7, ll8, ll9, ll10, ll11, ll12, ll13, ll14, ll15, ll16, ll17, ll18, ll19, ll20, ll21, ll22, ll23, ll24, ll25, ll26]; omega), ?_⟩
    refine ⟨stas ++ [⟨nameC cT (i : Int), 1 + d0 % 2, d1 % 4⟩], some (.int (0 + (i : Int))), some (.ref p), ?_, by rw [List.length_append, hl]; rfl, ?_, fun x hx => (List.mem_append.mp hx).elim (ho x) fun e => by rw [List.mem_singleton.mp e]; exact zok, ?_, hs.trans s3⟩
    · have e := glue_staC ([wHor 40] ++ sats.map wSat ++ stas.map wSta) (0 + (i : Int)) (1 + d0 % 2) (d1 % 4)
      have e' : glue (([wHor 40] ++ sats.map wSat ++ stas.map wSta ++ [wSta ⟨nameC cT (i : Int), 1 + d0 % 2, d1 % 4⟩]).map row) = glue (([wHor 40] ++ sats.map wSat ++ stas.map wSta).map row) ++ Str.ofString "station t" ++ num (0 + (i : Int)) ++ Str.ofString " antennas " ++ num (1 + d0 % 2) ++ Str.ofString " turn " ++ num (d1 % 4) ++ Str.ofString "\n" := by
        rw [e, Int.zero_add]
      show _ = ([some (.ref a), some (.int (R : Int)), some (.int (N : Int)), some (.int (1 + u % 2)), some (.int (1 + u2 / 2 % 2)), some (.str (glue (([wHor 40] ++ sats.map wSat ++ (stas ++ [(⟨nameC cT (i : Int), 1 + d0 % 2, d1 % 4⟩ : StaD)]).map wSta).map row))), _, _] : L2.St)
      rw [List.map_append (f := wSta), ← List.append_assoc, show [(⟨nameC cT (i : Int), 1 + d0 % 2, d1 % 4⟩ : StaD)].map wSta = [wSta ⟨nameC cT (i : Int), 1 + d0 % 2, d1 % 4⟩] from rfl, e']
      rfl
    · rw [List.map_append, ← List.append_assoc]
      exact hr2.snoc sh
    · rw [List.map_append]
      exact nam_step hm (by rw [List.length_map, hl]) rfl
  obtain ⟨stas, y6, y7, rfl, hl2, hr2, ho2, hm2, hs2⟩ := hI
  have l2 : stas.length = T := by omega
  refine ⟨_, rfl, _, rfl, by omega, by omega, for_range (lo := 0) (n := ((R : Nat) : Int).toNat) (fun i σ H' => ∃ (recs : List RecD) (y6 y7 : Option V), σ = [some (.ref a), some (.int (R : Int)), some (.int (N : Int)), some (.int (1 + u % 2)), some (.int (1 + u2 / 2 % 2)), some (.str (glue (([wHor 40] ++ sats.map wSat ++ stas.map wSta ++ recs.map gR).map row))), y6, y7] ∧ recs.length = i ∧
    RowsI ([wHor 40] ++ sats.map wSat ++ stas.map wSta ++ recs.map gR) (1 + S + T + i) ∧ (∀ z ∈ recs, RecC S z ∧ NameOk z.name) ∧ Nam cR (recs.map (·.name)) ∧ Same H H') ⟨[], _, _, by rw [show (([] : List RecD).map gR) = [] from rfl, List.append_nil] <;> rfl, rfl, by rw [show (([] : List RecD).map gR) = [] from rfl, List.append_nil]; have := hr2.len; exact ⟨by rw [this]; omega, hr2.short⟩, fun z hz => (nomatch hz), Nam.nil _, hs2⟩ (fun i σ H2 hi hI => ?_) (fun σ H3 hI => ?_)⟩
  · obtain ⟨recs, y6, y7, rfl, hl, hr3, ho, hm, hs⟩ := hI
    refine ⟨_, rfl, _, rfl, _, rfl, _, _, rfl, rfl, a, ns, 5 + (0 + (i : Int)), rfl, hs.seq hS, by omega, fun c => ⟨_, rfl, _, rfl, c, i, S, by rw [Int.zero_add, eS]; rfl, by omega, by omega, by omega, fun z H3 s3 zok zn => ?_⟩⟩
    have zn' : NameOk z.name := by rw [zn]; exact nameR_ok (by omega)
    have sh : (row (gR z)).length ≤ 1700 := short_of (wRecN_wd (nameS_ok (by have := zok.sat; omega)) zn' zok) (by show 20 ≤ 100; decide)
    refine ⟨_, _, rfl, rfl, hr3.fits (by omega) sh, ?_⟩
    refine ⟨recs ++ [z], some (.int (0 + (i : Int))), y7, ?_, by rw [List.length_append, hl]; rfl, ?_, fun x hx => (List.mem_append.mp hx).elim (ho x) fun e => by rw [List.mem_singleton.mp e]; exact ⟨zok, zn'⟩, ?_, hs.trans s3⟩
    · show _ = ([some (.ref a), some (.int (R : Int)), some (.int (N : Int)), some (.int (1 + u % 2)), some (.int (1 + u2 / 2 % 2)), some (.str (glue (([wHor 40] ++ sats.map wSat ++ stas.map wSta ++ (recs ++ [z]).map gR).map row))), _, _] : L2.St)
      rw [List.map_append (f := gR), ← List.append_assoc, show [z].map gR = [gR z] from rfl, ← glue_add]
      rfl
    · rw [List.map_append, ← List.append_assoc]
      exact hr3.snoc sh
    · rw [List.map_append]
      exact nam_step hm (by rw [List.length_map, hl]) zn
  obtain ⟨recs, y6, y7, rfl, hl3, hr3, ho3, hm3, hs3⟩ := hI
  have l3 : recs.length = R := by omega
  refine ⟨_, rfl, _, rfl, by omega, by omega, for_range (lo := 0) (n := ((N : Nat) : Int).toNat) (fun i σ H' => ∃ (pass : List PasD) (y6 y7 : Option V), σ = [some (.ref a), some (.int (R : Int)), some (.int (N : Int)), some (.int (1 + u % 2)), some (.int (1 + u2 / 2 % 2)), some (.str (glue (([wHor 40] ++ sats.map wSat ++ stas.map wSta ++ recs.map gR ++ pass.map gP).map row))), y6, y7] ∧ pass.length = i ∧
    RowsI ([wHor 40] ++ sats.map wSat ++ stas.map wSta ++ recs.map gR ++ pass.map gP) (1 + S + T + R + i) ∧ (∀ z ∈ pass, PasC S T z ∧ NameOk z.name) ∧ Nam cP (pass.map (·.name)) ∧ Same H H') ⟨[], _, _, by rw [show (([] : List PasD).map gP) = [] from rfl, List.append_nil] <;> rfl, rfl, by rw [show (([] : List PasD).map gP) = [] from rfl, List.append_nil]; have := hr3.len; exact ⟨by rw [this]; omega, hr3.short⟩, fun z hz => (nomatch hz), Nam.nil _, hs3⟩ (fun i σ H2 hi hI => ?_) (fun σ H4 hI => ?_)⟩
  · obtain ⟨pass, y6, y7, rfl, hl, hr4, ho, hm, hs⟩ := hI
    refine ⟨_, rfl, _, rfl, _, rfl, _, _, rfl, rfl, a, ns, 11 + (0 + (i : Int)), rfl, hs.seq hS, by omega, fun c => ⟨_, rfl, _, rfl, _, rfl, c, i, S, T, by rw [Int.zero_add, eS, eT]; rfl, by omega, by omega, by omega, by omega, by omega, fun z H3 s3 zok zn => ?_⟩⟩
    have zn' : NameOk z.name := by rw [zn]; exact nameP_ok (by omega)
    have sh : (row (gP z)).length ≤ 1700 := short_of (wPasN_wd (nameS_ok (by have := zok.sat; omega)) (nameT_ok (by have := zok.sta; omega)) zn' zok) (by show 16 ≤ 100; decide)
    refine ⟨_, _, rfl, rfl, hr4.fits (by omega) sh, ?_⟩
    refine ⟨pass ++ [z], some (.int (0 + (i : Int))), y7, ?_, by rw [List.length_append, hl]; rfl, ?_, fun x hx => (List.mem_append.mp hx).elim (ho x) fun e => by rw [List.mem_singleton.mp e]; exact ⟨zok, zn'⟩, ?_, hs.trans s3⟩
    · show _ = ([some (.ref a), some (.int (R : Int)), some (.int (N : Int)), some (.int (1 + u % 2)), some (.int (1 + u2 / 2 % 2)), some (.str (glue (([wHor 40] ++ sats.map wSat ++ stas.map wSta ++ recs.map gR ++ (pass ++ [z]).map gP).map row))), _, _] : L2.St)
      rw [List.map_append (f := gP), ← List.append_assoc, show [z].map gP = [gP z] from rfl, ← glue_add]
      rfl
    · rw [List.map_append, ← List.append_assoc]
      exact hr4.snoc sh
    · rw [List.map_append]
      exact nam_step hm (by rw [List.length_map, hl]) zn
  obtain ⟨pass, y6, y7, rfl, hl4, hr4, ho4, hm4, hs4⟩ := hI
  have l4 : pass.length = N := by omega
  have cg := worldC_ok (sats := sats) (stas := stas) (recs := recs) (pass := pass) (by omega) (by omega) (by omega) (by omega) ho1 hm1 ho2 hm2 (by rw [l1]; exact ho3) hm3 (by rw [l1, l2]; exact ho4) hm4
  have g := q ⟨40, sats, stas, recs, pass⟩ H4 hs4 cg l3 l4
  refine ⟨_, rfl, ?_⟩
  unfold textW at g
  rw [linesC hm1 hm2 (fun z hz => (cg.rcs z hz).sat) (fun z hz => ⟨(cg.pss z hz).sat, (cg.pss z hz).sta⟩)] at g
  exact g
end
end DP
namespace DP
open PySem PySem.Spec PyProof.Rows L2
/-- the tuple at a, each item in a new pair with its place -/
def IteT (K : PySem.W.Frag) (a : Addr) (k : Int) : It :=
  ⟨fun i H => ∃ (xs : List V) (x : V), SqT K H a xs ∧ xs[i]? = some x,
   fun i H v H' => ∃ T x, v = .ref T ∧ H T = none ∧ H' = upd H T (.tup [.int (k + (i : Nat)), x]) ∧ ∀ xs, SqT K H a xs → xs[i]? = some x,
   fun i H => ∃ xs : List V, SqT K H a xs ∧ xs.length ≤ i⟩
theorem tup_not_iter {h : Heap} {a it : Addr} {its : Array Value} {i : Nat} (l : h.IsTuple a its) (r : h.IsTupleIter it a i) : a ≠ it := fun z => by
  obtain ⟨o, ho, hc, _⟩ := l
  obtain ⟨o', ho', hc', _⟩ := r
  rw [z, ho'] at ho
  cases ho
  rw [hc] at hc'
  exact absurd hc' (by decide)
theorem turn_enumT {P : Program} {w : World} {K : PySem.W.Frag} {elts : List Expr} {kk : Nat} {tpos : Pos} (a en it : Addr) (k : Int) :
    Turn P w K (.Tuple elts kk tpos) (IteT K a k) [en, it] en (fun i h => (∃ old, IsEnum h en it (k + ((i : Nat) : Int)) old) ∧ h.IsTupleIter it a i ∧ en ≠ it) where
  mem := by simp
  obj := fun i h st b hb => by
    obtain ⟨⟨old, hen⟩, ⟨o, ho, hc, hd⟩, _⟩ := st
    have two : b = en ∨ b = it := by simpa using hb
    rcases two with z | z
    · subst z
      exact ⟨_, hen, fun v q => nomatch q⟩
    · subst z
      exact ⟨o, ho, fun v q => by rw [hd] at q; cases q⟩
  keep := fun i h h' st kp => by
    obtain ⟨⟨old, hen⟩, hi, hne⟩ := st
    exact ⟨⟨old, kp en (by simp) _ hen⟩, hi.at fun o q => kp it (by simp) o q, hne⟩
  item := by
    intro X hP hw hK hc i pins s σ H E I hf st hg
    subst hP hw hK
    obtain ⟨⟨old, hen⟩, hit, hne⟩ := st
    obtain ⟨xs, x, hq, hx⟩ := hg
    obtain ⟨its, rv, p0, hz⟩ := I.tuple hq
    have pl : s.heap.IsTuple a its.toArray := p0
    obtain ⟨u, hu, ru⟩ := rv.get hx
    have en_lt : en < s.heap.objs.size := Heap.lt_size hen
    have it_lt : it < s.heap.objs.size := by
      obtain ⟨_, q, _⟩ := hit
      exact Heap.lt_size q
    have nel := tup_not_iter pl hit
    have Dr := Draws.tuple (prog := X.prog) (w := X.w) (A := X.A.in1) (I.ok.hd hc) it a nel its.toArray
    have hi : i < its.toArray.size := by
      have := (List.getElem?_eq_some_iff.mp hu).1
      simpa using this
    by_cases ea : en = a
    · exfalso
      obtain ⟨o, ho, hc', _⟩ := pl
      rw [← ea, hen] at ho
      cases ho
      have e : Value.type "enumerate" = Value.type "tuple" := hc'
      exact absurd e (by decide)
    refine wpAny_pyNext_enum_itemC Dr hen ⟨hit, pl⟩ hi hne (by simp [hne, ea]) fun x' h' tk hP ho hit' hT hsz hk => ?_
    have ex : x' = u := by
      have e1 : its.toArray[i]? = some x' := hP
      have e2 : its.toArray[i]? = some u := by simpa using hu
      exact Option.some.inj (e1.symm.trans e2)
    subst ex
    refine ⟨_, rfl, wpAny_letOwnedTupleGo_enum (s := { s with heap := h', toks := tk + 1 }) ho fun h2 hen2 sb => ?_⟩
    have hT2 : h2.get? s.heap.objs.size = some { cls := .type "tuple", data := .seq #[.int (k + (i : Int)) tk, x'] } :=
      (sb.2 _ (Nat.ne_of_gt en_lt)).trans hT
    have fresh : H s.heap.objs.size = none := I.hok.fresh (Nat.le_refl _)
    have new : ObjOk X.prog X.w (upd H s.heap.objs.size (.tup [.int (k + (i : Nat)), x])) h2 s.heap.objs.size (.tup [.int (k + (i : Nat)), x]) :=
      ⟨(by show 2 ≤ sizeLine; decide), [.int (k + (i : Int)) tk, x'], .cons ⟨_, rfl⟩ (.cons ru .nil), ⟨_, hT2, rfl, _, rfl⟩⟩
    have keepAll : ∀ b ob, b ∉ [en, it] → s.heap.get? b = some ob → h2.get? b = some ob := fun b ob hb q => by
      have n1 : b ≠ en := fun z => hb (by simp [z])
      have n2 : b ≠ it := fun z => hb (by simp [z])
      exact (sb.2 b n1).trans (hk b ob n1 n2 q)
    have I1 := I.turnedNew (t' := tk + 1) (ch := [en, it]) keepAll hf (Nat.le_refl _) new
    refine ⟨.ref s.heap.objs.size, _, I1, rfl, ⟨_, x, rfl, fresh, rfl, fun ys hy => ?_⟩, ⟨⟨x', ?_⟩, ?_, hne⟩, fun b hb => ?_⟩
    · rw [I.tuple_inj hy hq]
      exact hx
    · have e1 : k + ((i + 1 : Nat) : Int) = k + (i : Int) + 1 := by omega
      rw [e1]
      exact hen2
    · exact hit'.1.at fun o q => (sb.2 it (Ne.symm hne)).trans q
    · have hb' : b < s.heap.objs.size := by
        have two : b = en ∨ b = it := by simpa using hb
        rcases two with z | z
        · rw [z]; exact en_lt
        · rw [z]; exact it_lt
      rw [upd_ne (Nat.ne_of_lt hb')]
      exact (hf b hb).1
  done := by
    intro X hP hw hK hc i pins s σ H E I hf st hg
    subst hP hw hK
    obtain ⟨⟨old, hen⟩, hit, hne⟩ := st
    obtain ⟨xs, hq, hx⟩ := hg
    obtain ⟨its, rv, p0, hz⟩ := I.tuple hq
    have pl : s.heap.IsTuple a its.toArray := p0
    have hl := rv.length
    obtain ⟨f0, f1, f2, f3, f4, f5⟩ := hf it (by simp)
    have hT : s.TypeIs (.ref en) "enumerate" := ⟨_, hen, rfl⟩
    unfold pyNext
    refine wpAny_bind (wpAny_attempt (wpAny_callSpecial?_slot (name := Str.ofString "__next__") hT F.slot_enumerate_next
      (wpAny_call_entry F.slot_enumerate_next hT F.entry_enumerate_next ?_
        (F.args_enumerate_next_1 _))))
    show wpAny _ _ (field (.ref en) 2 >>= _) _ _ _
    refine wpAny_bind (wpAny_field hen rfl (x := .ref it) rfl ?_)
    refine wpAny_bind (wpAny_nextOf_tuple_end (I.ok.hd hc) hit pl (by simp; omega) fun h' e eb hcl => ?_)
    obtain ⟨o, ho, hcs⟩ := hcl
    refine wpAny_bind (wpAny_isInstance (T := "StopIteration") (b := true) ⟨o, ho, hcs⟩ isSubtype_stop ?_)
    exact wpAny_pure ⟨rfl, I.turned (t' := s.toks) (fun b o hb q => eb b o hb q) f0 f1 f3 f4 f5⟩
  self := fun A i s Q E st h => let ⟨⟨_, hen⟩, _⟩ := st; wpAny_pyIter_enum hen h
theorem meets_enum1 {v : Value} {o : Obj} {H : Heap → Prop} (B : Begins v o H) :
    Meets (Builtin.«enumerate.__new__» ⟨[.type "enumerate", v], []⟩) (fun _ R s => H s.heap ∧
      R (.ok (.ret (.ref (s.heap.push o).objs.size))) { s with heap := (s.heap.push o).push { cls := .type "enumerate", data := .fields #[.none, .bool false, .ref s.heap.objs.size, rawInt 0, .none, .none] } }) :=
  .of_wp fun prog w A R s h => by
    obtain ⟨hp, g, d, tk, os⟩ := s
    obtain ⟨h1, h⟩ := h
    have hsub := sub_enumerate
    have q1 : ∀ {A' : Around} {E : Value → Shared → Prop} {Q : Value → Shared → Prop}, Q (.ref hp.objs.size) ⟨hp.push o, g, d, tk, os⟩ → wpAny (model prog w) A' (pyIter v) Q E ⟨hp, g, d, tk, os⟩ :=
      fun q => B.iter prog w _ _ ⟨hp, g, d, tk, os⟩ _ h1 q
    wp_walk using q1
    refine wpAny_stack_any fun st => wpAny_pure ?_
    split
    · rename_i c _ _ _ _ _
      cases (c == Value.type "enumerate")
      · wp_walk using q1
        exact ⟨_, rfl, h⟩
      · wp_walk using q1
        exact ⟨_, rfl, h⟩
    · wp_walk using q1
      exact ⟨_, rfl, h⟩
theorem enum_begins1 {prog : Program} {w : World} {A : Around} {E : Value → Shared → Prop} {s : Shared} {v : Value} {o : Obj} {H : Heap → Prop} {Q : Value → Shared → Prop} (B : Begins v o H) (h1 : H s.heap)
    (h : ∀ h', IsEnum h' (s.heap.objs.size + 1) s.heap.objs.size 0 .none → h'.get? s.heap.objs.size = some o → (∀ b o, s.heap.get? b = some o → h'.get? b = some o) → Q (.ref (s.heap.objs.size + 1)) { s with heap := h' }) :
    wpAny (model prog w) A (call (.type "enumerate") [v]) Q E s := by
  refine callType_new F.called_enumerate (by decide) (F.typeCall_enumerate_1 _) (F.newCall_enumerate_1 _) (fun obj => F.args_object_init_2 obj _) F.entry_enumerate_new (meets_enum1 B) ⟨h1, ?_⟩
  have hz : (s.heap.push o).objs.size = s.heap.objs.size + 1 := Heap.size_push ..
  show _ ∧ _
  rw [hz]
  have hen : IsEnum ((s.heap.push o).push { cls := .type "enumerate", data := .fields #[.none, .bool false, .ref s.heap.objs.size, rawInt 0, .none, .none] }) (s.heap.objs.size + 1) s.heap.objs.size 0 .none := by
    have z := Heap.get?_push_size (s.heap.push o) (o := { cls := .type "enumerate", data := .fields #[.none, .bool false, .ref s.heap.objs.size, rawInt 0, .none, .none] }) rfl
    rw [hz] at z
    exact z
  exact ⟨⟨_, hen, rfl⟩, h _ hen (Heap.get?_push_of_some _ (Heap.get?_push_size _ B.free)) fun b o x => Heap.get?_push_of_some _ (Heap.get?_push_of_some _ x)⟩
def iEnumT (K : PySem.W.Frag) (ta : TA) : TI := fun σ H R => ta σ H fun vs H1 => ∃ a xs, vs = [.ref a] ∧ SqT K H1 a xs ∧ R (IteT K a 0) H1
theorem pi_enumT {X : Cx} {e : Expr} {ta : TA} {p pos tpos : Pos} {elts : List Expr} {kk : Nat} (hg : Gl X "enumerate") (hm : X.mg "enumerate" = none) (ha : PA X [e] ta) (hs : starEach [e] X.env = [(false, eval e X.env)] := by rfl) :
    PI X (.Tuple elts kk tpos) (.Call (.Name "enumerate" p) [e] [] pos) (iEnumT X.K ta) := by
  refine ⟨fun pins s σ H R I h => ?_⟩
  refine Call_ (ld_blt I hg hm boot_enumerate (PyProof.Rows.callWith_type1 (thn (ha.run pos pins s σ H _ I h) fun us s1 ⟨vs, H1, I1, r1, q1⟩ => ?_) hs rfl))
  obtain ⟨a, xs, ex, hq, q⟩ := q1
  subst ex
  obtain ⟨u, eu, ru⟩ := vals1 r1
  subst eu
  cases ru
  obtain ⟨its, rv, p0, hz⟩ := I1.tuple hq
  have pl : s1.heap.IsTuple a its.toArray := p0
  refine enum_begins1 (begins_tuple a its.toArray) pl fun h' hen hit hkp => wpAny_pyIter_enum hen ?_
  have I3 : Inv X pins σ H1 { s1 with heap := h' } := I1.kept (t' := s1.toks) hkp
  refine ⟨s1.heap.objs.size + 1, [s1.heap.objs.size + 1, s1.heap.objs.size], _, _, H1, rfl, I3, turn_enumT a (s1.heap.objs.size + 1) s1.heap.objs.size 0,
    ⟨⟨.none, ?_⟩, ⟨_, hit, rfl, rfl⟩, Nat.succ_ne_self _⟩, fun b hb => ?_, q⟩
  · show IsEnum h' _ _ (0 + 0) _
    rw [Int.add_zero]
    exact hen
  · have two : b = s1.heap.objs.size + 1 ∨ b = s1.heap.objs.size := by simpa using hb
    have hle : s1.heap.objs.size ≤ b := by
      rcases two with z | z
      · rw [z]; exact Nat.le_add_right _ 1
      · rw [z]; exact Nat.le_refl _
    exact I1.fpOk hle (I1.hok.fresh hle)
theorem walk_enumT {K : PySem.W.Frag} {a : Addr} {k : Int} {xs : List V} :
    Walk (IteT K a k) xs.length (fun H => SqT K H a xs) (fun i H v H' => ∃ T x, v = .ref T ∧ H T = none ∧ H' = upd H T (.tup [.int (k + (i : Nat)), x]) ∧ xs[i]? = some x) :=
  ⟨fun i H hi q => ⟨xs, xs[i], q, List.getElem?_eq_getElem hi⟩, fun H q => ⟨xs, q, Nat.le_refl _⟩, fun i H v H' hi q ⟨T, x, e1, e2, e3, e4⟩ => ⟨T, x, e1, e2, e3, e4 xs q⟩⟩
end DP
namespace DP
open PySem PySem.Spec PyProof.Rows L2
def okP (r : RecD) (s : Int) (p : PasD) : Bool := decide ((p.sat : Int) = (r.sat : Int)) && (decide (s + r.length ≤ p.first) && decide (p.fin ≤ r.deadline))
def optAt (P : List PasD) (r : RecD) (s : Int) (k : Nat) : List (Int × Int) := match P[k]? with
  | some p => if okP r s p = true then [(s, (k : Int))] else []
  | none => []
def optS (P : List PasD) (r : RecD) (s : Int) (j : Nat) : List (Int × Int) := (List.range j).flatMap (optAt P r s)
def optR (P : List PasD) (r : RecD) (i : Nat) : List (Int × Int) := (List.range i).flatMap fun (t : Nat) => optS P r (r.earliest + (t : Int)) P.length
def optsW (W : WorldD) (r : RecD) : List (Int × Int) := optR W.pass r (r.latest + 1 - r.earliest).toNat
theorem optS_succ (P : List PasD) (r : RecD) (s : Int) (j : Nat) : optS P r s (j + 1) = optS P r s j ++ optAt P r s j := by
  unfold optS
  rw [List.range_succ, List.flatMap_append, List.flatMap_cons, List.flatMap_nil, List.append_nil]
theorem optR_succ (P : List PasD) (r : RecD) (i : Nat) : optR P r (i + 1) = optR P r i ++ optS P r (r.earliest + (i : Int)) P.length := by
  unfold optR
  rw [List.range_succ, List.flatMap_append, List.flatMap_cons, List.flatMap_nil, List.append_nil]
theorem optAt_len (P : List PasD) (r : RecD) (s : Int) (k : Nat) : (optAt P r s k).length ≤ 1 := by
  unfold optAt
  split
  · split <;> simp
  · exact Nat.zero_le _
theorem optS_len (P : List PasD) (r : RecD) (s : Int) : ∀ j, (optS P r s j).length ≤ j
  | 0 => Nat.zero_le _
  | j + 1 => by
    rw [optS_succ, List.length_append]
    have h1 := optS_len P r s j
    have h2 := optAt_len P r s j
    omega
theorem optR_len (P : List PasD) (r : RecD) : ∀ i, (optR P r i).length ≤ i * P.length
  | 0 => by show 0 ≤ _; exact Nat.zero_le _
  | i + 1 => by
    rw [optR_succ, List.length_append, Nat.succ_mul]
    have h1 := optR_len P r i
    have h2 := optS_len P r (r.earliest + (i : Int)) P.length
    omega
theorem optAt_some {P : List PasD} {r : RecD} {s : Int} {k : Nat} {p : PasD} (h : P[k]? = some p) : optAt P r s k = if okP r s p = true then [(s, (k : Int))] else [] := by
  unfold optAt
  rw [h]
theorem room_opts {W : WorldD} {z : RecD} (ok : RecOk W z) (n : W.pass.length ≤ 10) {i : Nat} (hi : i ≤ (z.latest + 1 - z.earliest).toNat) {j : Nat} (s : Int) : (optR W.pass z i ++ optS W.pass z s j).length ≤ 210 + j := by
  rw [List.length_append]
  have h1 := optR_len W.pass z i
  have h2 := optS_len W.pass z s j
  have h3 := ok.latest
  have h4 : i ≤ 21 := by omega
  have h5 : i * W.pass.length ≤ 21 * 10 := Nat.mul_le_mul h4 n
  omega
theorem optsW_len {W : WorldD} (wok : WorldOk W) {z : RecD} (ok : RecOk W z) : (optsW W z).length ≤ 210 := by
  have h := room_opts ok wok.nPass (Nat.le_refl _) (j := 0) 0
  rw [List.length_append] at h
  show (optR _ _ _).length ≤ _
  omega
end DP
namespace DP
open PySem PySem.Spec PyProof.Rows L2
def spanPy (q : Int × Int) : PyData := .tuple [.int q.1, .int q.2]
mutual
theorem dp_map {K : PySem.W.Frag} {H H' : Hp} (fT : ∀ b xs, SqT K H b xs → SqT K H' b xs) (fL : ∀ b xs, SqL K H b xs → SqL K H' b xs) : ∀ {v : V} {d : PyData}, Dp K H v d → Dp K H' v d
  | _, _, .non => .non
  | _, _, .bl b => .bl b
  | _, _, .int i => .int i
  | _, _, .str x => .str x
  | _, _, .lst h t => .lst (fL _ _ h) (dpAll_map fT fL t)
  | _, _, .tup h t => .tup (fT _ _ h) (dpAll_map fT fL t)
theorem dpAll_map {K : PySem.W.Frag} {H H' : Hp} (fT : ∀ b xs, SqT K H b xs → SqT K H' b xs) (fL : ∀ b xs, SqL K H b xs → SqL K H' b xs) : ∀ {xs : List V} {ds : List PyData}, DpAll K H xs ds → DpAll K H' xs ds
  | _, _, .nil => .nil
  | _, _, .cons a t => .cons (dp_map fT fL a) (dpAll_map fT fL t)
end
theorem dp_same {K : PySem.W.Frag} {H H' : Hp} (s : Same H H') {v : V} {d : PyData} (h : Dp K H v d) : Dp K H' v d := dp_map (fun _ _ => Same.tup s) (fun _ _ => s.seq) h
theorem dpAll_same {K : PySem.W.Frag} {H H' : Hp} (s : Same H H') {xs : List V} {ds : List PyData} (h : DpAll K H xs ds) : DpAll K H' xs ds := dpAll_map (fun _ _ => Same.tup s) (fun _ _ => s.seq) h
mutual
def noL : PyData → Prop
  | .list _ => False
  | .tuple ds => noLs ds
  | _ => True
def noLs : List PyData → Prop
  | [] => True
  | d :: ds => noL d ∧ noLs ds
end
mutual
theorem dpT_map {K : PySem.W.Frag} {H H' : Hp} (fT : ∀ b xs, SqT K H b xs → SqT K H' b xs) : ∀ {v : V} {d : PyData}, noL d → Dp K H v d → Dp K H' v d
  | _, _, _, .non => .non
  | _, _, _, .bl b => .bl b
  | _, _, _, .int i => .int i
  | _, _, _, .str x => .str x
  | _, _, n, .lst h t => False.elim (by unfold noL at n; exact n)
  | _, _, n, .tup h t => .tup (fT _ _ h) (dpTs_map fT (by unfold noL at n; exact n) t)
theorem dpTs_map {K : PySem.W.Frag} {H H' : Hp} (fT : ∀ b xs, SqT K H b xs → SqT K H' b xs) : ∀ {xs : List V} {ds : List PyData}, noLs ds → DpAll K H xs ds → DpAll K H' xs ds
  | _, _, _, .nil => .nil
  | _, _, n, .cons a t => .cons (dpT_map fT (by unfold noLs at n; exact n.1) a) (dpTs_map fT (by unfold noLs at n; exact n.2) t)
end
theorem noLs_map {α : Type} {f : α → PyData} (h : ∀ a, noL (f a)) : ∀ l : List α, noLs (l.map f)
  | [] => by show noLs []; unfold noLs; trivial
  | a :: r => by show noLs (f a :: r.map f); unfold noLs; exact ⟨h a, noLs_map h r⟩
theorem dpAll_snoc {K : PySem.W.Frag} {H : Hp} : ∀ {xs : List V} {ds : List PyData} {x : V} {d : PyData}, DpAll K H xs ds → Dp K H x d → DpAll K H (xs ++ [x]) (ds ++ [d])
  | _, _, _, _, .nil, h => .cons h .nil
  | _, _, _, _, .cons a t, h => .cons a (dpAll_snoc t h)
theorem dpTs_up {K : PySem.W.Frag} {H : Hp} {L : Addr} {ys xs : List V} {ds : List PyData} {o : HO} (n : noLs ds) (e : H L = some (.lst ys)) (h : DpAll K H xs ds) : DpAll K (upd H L o) xs ds := dpTs_map (fun _ _ z => sqT_upd z e) n h
theorem dpT_up {K : PySem.W.Frag} {H : Hp} {L : Addr} {ys : List V} {v : V} {d : PyData} {o : HO} (n : noL d) (e : H L = some (.lst ys)) (h : Dp K H v d) : Dp K (upd H L o) v d := dpT_map (fun _ _ z => sqT_upd z e) n h
theorem spans_dp {K : PySem.W.Frag} {H : Hp} {xs : List V} {qs : List (Int × Int)} (h : Spans K H xs qs) : DpAll K H xs (qs.map spanPy) := by
  induction h with
  | nil => exact .nil
  | cons a _ ih =>
    obtain ⟨t, rfl, ht⟩ := a
    exact .cons (.tup ht (.cons (.int _) (.cons (.int _) .nil))) ih
theorem dpAll_len {K : PySem.W.Frag} {H : Hp} : ∀ {xs : List V} {ds : List PyData}, DpAll K H xs ds → xs.length = ds.length
  | _, _, .nil => rfl
  | _, _, .cons _ t => by rw [List.length_cons, List.length_cons, dpAll_len t]
theorem dpAll_at {K : PySem.W.Frag} {H : Hp} : ∀ {xs : List V} {ds : List PyData} (i : Nat), DpAll K H xs ds → i < ds.length → ∃ x d, xs[i]? = some x ∧ ds[i]? = some d ∧ Dp K H x d
  | _, _, _, .nil, h => absurd h (Nat.not_lt_zero _)
  | _, _, 0, .cons (v := v) (d := d) a _, _ => ⟨v, d, rfl, rfl, a⟩
  | _, _, i + 1, .cons _ t, h => by
    obtain ⟨x, d, h1, h2, h3⟩ := dpAll_at i t (by rw [List.length_cons] at h; omega)
    exact ⟨x, d, by rw [List.getElem?_cons_succ]; exact h1, by rw [List.getElem?_cons_succ]; exact h2, h3⟩
theorem dpAll_get {K : PySem.W.Frag} {H : Hp} {α : Type} {f : α → PyData} {xs : List V} {l : List α} {i : Nat} {x : V} (h : DpAll K H xs (l.map f)) (hx : xs[i]? = some x) : ∃ a, l[i]? = some a ∧ Dp K H x (f a) := by
  have hl := dpAll_len h
  have hi : i < xs.length := (List.getElem?_eq_some_iff.mp hx).1
  obtain ⟨y, d, h1, h2, h3⟩ := dpAll_at i h (by rw [← hl]; exact hi)
  rw [hx] at h1
  cases h1
  rw [List.getElem?_map] at h2
  cases e : l[i]? with
  | none => rw [e] at h2; cases h2
  | some a =>
    rw [e] at h2
    have ed : f a = d := Option.some.inj h2
    rw [← ed] at h3
    exact ⟨a, rfl, h3⟩
theorem dpAll_get2 {K : PySem.W.Frag} {H : Hp} {α : Type} {f : α → PyData} {xs : List V} {l : List α} {i : Nat} {a : α} (h : DpAll K H xs (l.map f)) (ha : l[i]? = some a) : ∃ x, xs[i]? = some x ∧ Dp K H x (f a) := by
  have hi : i < (l.map f).length := by
    rw [List.length_map]
    exact (List.getElem?_eq_some_iff.mp ha).1
  obtain ⟨y, d, h1, h2, h3⟩ := dpAll_at i h hi
  rw [List.getElem?_map, ha] at h2
  have ed : f a = d := Option.some.inj h2
  rw [← ed] at h3
  exact ⟨y, h1, h3⟩
theorem dp_tup {K : PySem.W.Frag} {H : Hp} {x : V} {ds : List PyData} (h : Dp K H x (.tuple ds)) : ∃ t xs, x = .ref t ∧ SqT K H t xs ∧ DpAll K H xs ds := by
  cases h with
  | tup h1 h2 => exact ⟨_, _, rfl, h1, h2⟩
theorem dp_ints {K : PySem.W.Frag} {H : Hp} : ∀ {xs : List V} {ns : List Int}, DpAll K H xs (ns.map PyData.int) → xs = ns.map V.int
  | _, [], .nil => rfl
  | _, n :: r, .cons h t => by
    cases h
    rw [dp_ints t]
    rfl
theorem sz2_ : 2 ≤ sizeLine := Nat.le_trans (by decide : 2 ≤ 1000) (Nat.le_of_lt (small1000 (Nat.le_refl _)))
end DP
namespace DP
open PySem PySem.Spec PyProof.Rows L2
theorem sz4_ : 4 ≤ sizeLine := Nat.le_trans (by decide : 4 ≤ 1000) (Nat.le_of_lt (small1000 (Nat.le_refl _)))
end DP
namespace DP
open PySem PySem.Spec PyProof.Rows L2
theorem lk_Satellite_store {s : SatD} {t : Addr} : List.lookup ("store" : Str) (satF s t) = some (.int s.store : V) := by unfold satF; repeat (first | exact lk_hit | rw [lk_miss (by decide +kernel)])
theorem lk_Satellite_battery {s : SatD} {t : Addr} : List.lookup ("battery" : Str) (satF s t) = some (.int s.battery : V) := by unfold satF; repeat (first | exact lk_hit | rw [lk_miss (by decide +kernel)])
theorem lk_Satellite_start_level {s : SatD} {t : Addr} : List.lookup ("start_level" : Str) (satF s t) = some (.int s.level : V) := by unfold satF; repeat (first | exact lk_hit | rw [lk_miss (by decide +kernel)])
theorem lk_Satellite_reserve {s : SatD} {t : Addr} : List.lookup ("reserve" : Str) (satF s t) = some (.int s.reserve : V) := by unfold satF; repeat (first | exact lk_hit | rw [lk_miss (by decide +kernel)])
theorem lk_Satellite_charge {s : SatD} {t : Addr} : List.lookup ("charge" : Str) (satF s t) = some (.int s.charge : V) := by unfold satF; repeat (first | exact lk_hit | rw [lk_miss (by decide +kernel)])
theorem lk_Satellite_settle {s : SatD} {t : Addr} : List.lookup ("settle" : Str) (satF s t) = some (.int s.settle : V) := by unfold satF; repeat (first | exact lk_hit | rw [lk_miss (by decide +kernel)])
theorem lk_Satellite_light {s : SatD} {t : Addr} : List.lookup ("light" : Str) (satF s t) = some (.ref t : V) := by unfold satF; repeat (first | exact lk_hit | rw [lk_miss (by decide +kernel)])
theorem lk_Station_antennas {s : StaD} : List.lookup ("antennas" : Str) (staF s) = some (.int s.antennas : V) := by unfold staF; repeat (first | exact lk_hit | rw [lk_miss (by decide +kernel)])
theorem lk_Station_turn {s : StaD} : List.lookup ("turn" : Str) (staF s) = some (.int s.turn : V) := by unfold staF; repeat (first | exact lk_hit | rw [lk_miss (by decide +kernel)])
theorem lk_Recording_satellite {r : RecD} : List.lookup ("satellite" : Str) (recF r) = some (.int (r.sat : Int) : V) := by unfold recF; repeat (first | exact lk_hit | rw [lk_miss (by decide +kernel)])
theorem lk_Recording_earliest {r : RecD} : List.lookup ("earliest" : Str) (recF r) = some (.int r.earliest : V) := by unfold recF; repeat (first | exact lk_hit | rw [lk_miss (by decide +kernel)])
theorem lk_Recording_latest {r : RecD} : List.lookup ("latest" : Str) (recF r) = some (.int r.latest : V) := by unfold recF; repeat (first | exact lk_hit | rw [lk_miss (by decide +kernel)])
theorem lk_Recording_length {r : RecD} : List.lookup ("length" : Str) (recF r) = some (.int r.length : V) := by unfold recF; repeat (first | exact lk_hit | rw [lk_miss (by decide +kernel)])
theorem lk_Recording_size {r : RecD} : List.lookup ("size" : Str) (recF r) = some (.int r.size : V) := by unfold recF; repeat (first | exact lk_hit | rw [lk_miss (by decide +kernel)])
theorem lk_Recording_energy {r : RecD} : List.lookup ("energy" : Str) (recF r) = some (.int r.energy : V) := by unfold recF; repeat (first | exact lk_hit | rw [lk_miss (by decide +kernel)])
theorem lk_Recording_deadline {r : RecD} : List.lookup ("deadline" : Str) (recF r) = some (.int r.deadline : V) := by unfold recF; repeat (first | exact lk_hit | rw [lk_miss (by decide +kernel)])
theorem lk_Pass_satellite {p : PasD} {t : Addr} : List.lookup ("satellite" : Str) (pasF p t) = some (.int (p.sat : Int) : V) := by unfold pasF; repeat (first | exact lk_hit | rw [lk_miss (by decide +kernel)])
theorem lk_Pass_station {p : PasD} {t : Addr} : List.lookup ("station" : Str) (pasF p t) = some (.int (p.sta : Int) : V) := by unfold pasF; repeat (first | exact lk_hit | rw [lk_miss (by decide +kernel)])
theorem lk_Pass_span {p : PasD} {t : Addr} : List.lookup ("span" : Str) (pasF p t) = some (.ref t : V) := by unfold pasF; repeat (first | exact lk_hit | rw [lk_miss (by decide +kernel)])
theorem lk_Pass_room {p : PasD} {t : Addr} : List.lookup ("room" : Str) (pasF p t) = some (.int p.room : V) := by unfold pasF; repeat (first | exact lk_hit | rw [lk_miss (by decide +kernel)])
theorem lk_Pass_energy {p : PasD} {t : Addr} : List.lookup ("energy" : Str) (pasF p t) = some (.int p.energy : V) := by unfold pasF; repeat (first | exact lk_hit | rw [lk_miss (by decide +kernel)])
theorem lk_World_horizon {u : Str} {h : Int} {t0 t1 t2 t3 : Addr} : List.lookup ("horizon" : Str) (worF u h t0 t1 t2 t3) = some (.int h : V) := by unfold worF; repeat (first | exact lk_hit | rw [lk_miss (by decide +kernel)])
theorem lk_World_satellites {u : Str} {h : Int} {t0 t1 t2 t3 : Addr} : List.lookup ("satellites" : Str) (worF u h t0 t1 t2 t3) = some (.ref t0 : V) := by unfold worF; repeat (first | exact lk_hit | rw [lk_miss (by decide +kernel)])
theorem lk_World_stations {u : Str} {h : Int} {t0 t1 t2 t3 : Addr} : List.lookup ("stations" : Str) (worF u h t0 t1 t2 t3) = some (.ref t1 : V) := by unfold worF; repeat (first | exact lk_hit | rw [lk_miss (by decide +kernel)])
theorem lk_World_recordings {u : Str} {h : Int} {t0 t1 t2 t3 : Addr} : List.lookup ("recordings" : Str) (worF u h t0 t1 t2 t3) = some (.ref t2 : V) := by unfold worF; repeat (first | exact lk_hit | rw [lk_miss (by decide +kernel)])
theorem lk_World_passes {u : Str} {h : Int} {t0 t1 t2 t3 : Addr} : List.lookup ("passes" : Str) (worF u h t0 t1 t2 t3) = some (.ref t3 : V) := by unfold worF; repeat (first | exact lk_hit | rw [lk_miss (by decide +kernel)])
end DP
namespace DP
open PySem PySem.Spec PyProof.Rows L2
inductive EntM where
  | non : EntM
  | opn : EntM
  | at_ (s p : Int) : EntM
inductive EntT where
  | non : EntT
  | opn : EntT
  | ant (n : Int) : EntT
def entM : EntM → PyData
  | .non => .none
  | .opn => .str "open"
  | .at_ s p => .tuple [.int s, .int p]
def entT : EntT → PyData
  | .non => .none
  | .opn => .str "open"
  | .ant n => .int n
structure CaseD where
  made : List EntM
  taken : List EntT
def casePy (c : CaseD) : PyData := .tuple [.tuple (c.made.map entM), .tuple (c.taken.map entT)]
def MOk (W : WorldD) (o : Bool) : EntM → Prop
  | .non => True
  | .opn => o = true
  | .at_ s p => 0 ≤ s ∧ s ≤ W.horizon ∧ 0 ≤ p ∧ p < (W.pass.length : Int)
def TOk (o : Bool) : EntT → Prop
  | .non => True
  | .opn => o = true
  | .ant n => 0 ≤ n ∧ n ≤ 5
structure CaseG (W : WorldD) (o : Bool) (c : CaseD) : Prop where
  nM : c.made.length = W.recs.length
  nT : c.taken.length = W.pass.length
  mOk : ∀ e ∈ c.made, MOk W o e
  tOk : ∀ e ∈ c.taken, TOk o e
theorem optsW_mem {W : WorldD} {z : RecD} (ok : RecOk W z) {q : Int × Int} (h : q ∈ optsW W z) : 0 ≤ q.1 ∧ q.1 ≤ W.horizon ∧ 0 ≤ q.2 ∧ q.2 < (W.pass.length : Int) := by
  unfold optsW optR at h
  obtain ⟨i, hi, h⟩ := List.mem_flatMap.mp h
  unfold optS at h
  obtain ⟨k, hk, h⟩ := List.mem_flatMap.mp h
  rw [List.mem_range] at hi hk
  unfold optAt at h
  have h1 := ok.earliest
  have h2 := ok.latest
  split at h
  · split at h
    · have e := List.mem_singleton.mp h
      rw [e]
      dsimp only
      omega
    · exact absurd h List.not_mem_nil
  · exact absurd h List.not_mem_nil
theorem dp_at {K : PySem.W.Frag} {H : Hp} {v : V} {s p : Int} (h : SpanV K H v (s, p)) : Dp K H v (entM (.at_ s p)) := by
  obtain ⟨t, rfl, ht⟩ := h
  exact .tup ht (.cons (.int _) (.cons (.int _) .nil))
end DP
namespace DP
open PySem PySem.Spec PyProof.Rows L2
section
variable {P : Program} {w : World} {K : PySem.W.Frag} {mg : Str → Option Value} {base : Heap} {CL CS CT CR CP CW aS aR fS fT fR fP : Addr}
def spWorldC (K : PySem.W.Frag) (CS CT CR CP CW : Addr) : Sp := fun vs H Q _ => ∃ (a : Addr) (ns : List Int), vs = [.ref a] ∧ SqL K H a (ns.map V.int) ∧ ∀ (ac : Addr) (W : WorldD) (H' : Hp), Same H H' → CG W → WorldAt K CS CT CR CP CW H' ac W → Q (.ref ac) H'
theorem d_worldC (T : TxtW K mg CL CS CT CR CP CW aS aR fS fT fR fP) (D_law_cell : DefOk P w K mg base CX0 1 "_law_cell" ["script", "k"] (spCell K)) (D_law_text : DefOk P w K mg base CX0 3 "_law_text" ["script", "recordings", "passes"] (spTextC K))
    (D_World_parse : SDef P w K mg base CX0 7 CW "parse" ["text"] (spParse K CS CT CR CP CW)) (A : At K mg "_law_world" s__law_world ["script"]) : DefOk P w K mg base CX0 8 "_law_world" ["script"] (spWorldC K CS CT CR CP CW) := by
  have B := T.L.B
  refine A.ok sc__law_world (fun vs H Q E h => ?_) (fun f cdv A outer s H vs Q E hr h => ?_)
  · obtain ⟨a, ns, rfl, _⟩ := h
    rfl
  obtain ⟨a, ns, rfl, hS, q⟩ := h
  refine ⟨_, pss_cons (ps_set (i := 1) sc__law_world.nd rfl (Or.inl rfl) (pe_op op_fdiv (pe_callTy (call_int1) (by rfl) B.int (by decide +kernel) (pa_cons (pe_f D_law_cell (hr.mono (by omega)) pass0 (pa_cons (pv 0) (pa_cons pe_int pa_nil))) pa_nil)) pe_int))
  (pss_one (ps_ret (pe_smeth D_World_parse T.rdW (hr.mono (by omega)) pass0 (pe_ga T.c_World.gC) (pa_cons (pe_f D_law_text (hr.mono (by omega)) pass0 (pa_cons (pv 0) (pa_cons (pe_op op_add pe_int (pe_op op_mod (pv 1) pe_int)) (pa_cons (pe_op op_add pe_int (pe_op op_mod (pe_op op_fdiv (pv 1) pe_int) pe_int)) pa_nil)))) pa_nil))))
    , ?_⟩
  refine ⟨_, rfl, a, ns, 0, rfl, hS, by decide, fun u => .inl ⟨_, rfl, _, _, rfl, rfl, ⟨by decide, by decide⟩, ?_⟩⟩
  obtain ⟨R, eR⟩ : ∃ R : Nat, 1 + u / 4 % 5 = (R : Int) := ⟨(1 + u / 4 % 5).toNat, by omega⟩
  obtain ⟨N, eN⟩ : ∃ N : Nat, 1 + u / 4 / 5 % 4 = (N : Int) := ⟨(1 + u / 4 / 5 % 4).toNat, by omega⟩
  refine ⟨rfl, _, rfl, _, rfl, _, _, rfl, rfl, (by show (0 : Int) < _; decide), _, _, rfl, rfl, _, rfl, _, _, rfl, rfl, ⟨by decide, by decide⟩, _, _, rfl, rfl, (by show (0 : Int) < _; decide), _, _, rfl, rfl, a, ns, R, N, ?_, hS, by omega, by omega, fun W H1 s1 cg _ _ => ⟨W, rfl, cg.ok, fun ac H2 nA s2 hW => q ac W H2 (s1.trans s2) cg hW⟩⟩
  rw [← eR, ← eN]
  rfl
end
end DP
namespace DP
open PySem PySem.Spec PyProof.Rows L2
abbrev s__law_options : Stmt := topS 64
theorem sc__law_options : FnScope ["world", "r", "recording", "found", "start", "p", "chance"] ["world", "r"] (defScope s__law_options) := ⟨rfl, rfl, rfl, by decide +kernel, rfl, by decide +kernel, by decide +kernel⟩
section
variable {P : Program} {w : World} {K : PySem.W.Frag} {mg : Str → Option Value} {base : Heap} {CL CS CT CR CP CW aS aR fS fT fR fP : Addr}
def spOptC (K : PySem.W.Frag) (CS CT CR CP CW : Addr) : Sp := fun vs H Q _ => ∃ (ac : Addr) (W : WorldD) (i : Nat) (z : RecD), vs = [.ref ac, .int (i : Int)] ∧ WorldOk W ∧ WorldAt K CS CT CR CP CW H ac W ∧ W.recs[i]? = some z ∧
  ∀ l xs H', Same H H' → H l = none → H' l = some (.lst xs) → Spans K H' xs (optsW W z) → Q (.ref l) H'
set_option maxHeartbeats 8000000 in
theorem d_optC (T : TxtW K mg CL CS CT CR CP CW aS aR fS fT fR fP) (A : At K mg "_law_options" s__law_options ["world", "r"]) : DefOk P w K mg base CX0 1 "_law_options" ["world", "r"] (spOptC K CS CT CR CP CW) := by
  have B := T.L.B
  refine A.ok sc__law_options (fun vs H Q E h => ?_) (fun f cdv A outer s H vs Q E hr h => ?_)
  · obtain ⟨ac, W, i, z, rfl, _⟩ := h
    rfl
  obtain ⟨ac, W, i, z, rfl, wok, hW, hz, q⟩ := h
  obtain ⟨dx, t0, t1, t2, t3, x0, x1, x2, x3, gw, _, _, _, _, p2, q2, p3, q3⟩ := hW.ex
  have l2 := paired_len q2
  have l3 := paired_len q3
  have hi : i < W.recs.length := (List.getElem?_eq_some_iff.mp hz).1
  obtain ⟨x, hx⟩ : ∃ x, x2[i]? = some x := ⟨_, List.getElem?_eq_getElem (by omega)⟩
  obtain ⟨z', hz', ob, od, rfl, o1⟩ := paired_at q2 hx
  rw [hz] at hz'
  have ez := Option.some.inj hz'
  subst ez
  have ok := wok.recs z (List.mem_of_getElem? hz)
  have nP := wok.nPass
  have k1 := ok.earliest
  have k2 := ok.latest
  have k3 := wok.horizon
  refine ⟨_, pss_cons (ps_set (i := 2) sc__law_options.nd rfl (Or.inl rfl) (pe_ix ix_tup (pe_fld (pv 0) rfl) (pv 1) (fun _ _ => rfl)))
  (pss_cons (ps_set (i := 3) sc__law_options.nd rfl (Or.inl rfl) (pe_lst pa_nil))
  (pss_cons (ps_for PassesOwn.never rfl (pi_range2 (by rfl) B.range (pa_cons (pe_fld (pv 2) rfl) (pa_cons (pe_op op_add (pe_fld (pv 2) rfl) pe_int) pa_nil))) (pg_name (i := 4) sc__law_options.nd rfl (Or.inl rfl))
      (pss_one (ps_for PassesOwn.never rfl (pi_enumT (by rfl) B.enumerate (pa_cons (pe_fld (pv 0) rfl) pa_nil)) (pg_tup (by rfl) (pgs_cons (pg_name (i := 5) sc__law_options.nd rfl (Or.inl rfl)) (pgs_cons (pg_name (i := 6) sc__law_options.nd rfl (Or.inl rfl)) (pgs_nil))))
          (pss_one (ps_if (PW.pt (pw_and (pt_cmpR op_eq (pe_fld (pv 6) rfl) (pe_fld (pv 2) rfl) (nomark _)) (pw_and1 (pt_cmpR op_le (pe_op op_add (pv 4) (pe_fld (pv 2) rfl)) (pe_ix ix_tup (pe_fld (pv 6) rfl) pe_int (fun _ _ => rfl)) (nomark _)))))
              (pss_one (ps_if (pt_cmpR op_le (pe_ix ix_tup (pe_fld (pv 6) rfl) pe_int (fun _ _ => rfl)) (pe_fld (pv 2) rfl) (nomark _))
                  (pss_one (ps_expr (pe_bm PySem.F.plainAttrs_list PySem.F.slot_list_append PySem.F.type_list_append mt_append (pv 3) (pa_cons (pe_tup (pa_cons (pv 4) (pa_cons (pv 5) pa_nil))) pa_nil))))
                  (pss_nil)))
              (pss_nil))))))
  (pss_one (ps_ret (pv 3)))))
    , ?_⟩
  refine ⟨_, rfl, ac, CW, dx, _, _, rfl, gw, T.c_World.cl, T.n_World_recordings, lk_World_recordings, _, rfl, t2, x2, (i : Int), _, rfl, rfl, p2, atI_nat hx, ?_⟩
  refine ⟨Nat.zero_le _, fun D hD => ?_⟩
  have sD := same_new hD (.lst [])
  refine ⟨_, rfl, ob, CR, od, _, _, rfl, sD _ _ o1, T.c_Recording.cl, T.n_Recording_earliest, lk_Recording_earliest, _, rfl, ob, CR, od, _, _, rfl, sD _ _ o1, T.c_Recording.cl, T.n_Recording_latest, lk_Recording_latest, _, _, rfl, rfl, z.earliest, z.latest + 1, rfl, ⟨by omega, by omega, by omega, by omega⟩, ?_⟩
  refine for_range (lo := z.earliest) (n := (z.latest + 1 - z.earliest).toNat) (fun j σ H' => ∃ (xs : List V) (y4 y5 y6 : Option V), σ = [some (.ref ac), some (.int (i : Int)), some (.ref ob), some (.ref D), y4, y5, y6] ∧ H' D = some (.lst xs) ∧ Spans K H' xs (optR W.pass z j) ∧ Same H H')
    ⟨[], none, none, none, rfl, upd_same, (show Spans K _ [] [] from .nil), sD⟩ (fun j σ H1 hj hI => ?_) (fun σ H1 hI => ?_)
  · obtain ⟨xs, y4, y5, y6, rfl, hDD, hsp, hs⟩ := hI
    refine ⟨_, rfl, ac, CW, dx, _, _, rfl, hs _ _ gw, T.c_World.cl, T.n_World_passes, lk_World_passes, t3, x3, rfl, Same.tup hs p3, ?_⟩
    refine for_it (walk_enumT (xs := x3)) (fun k σ H' => ∃ (xs : List V) (y5 y6 : Option V), σ = [some (.ref ac), some (.int (i : Int)), some (.ref ob), some (.ref D), some (.int (z.earliest + (j : Int))), y5, y6] ∧ H' D = some (.lst xs) ∧
      Spans K H' xs (optR W.pass z j ++ optS W.pass z (z.earliest + (j : Int)) k) ∧ Same H H') ⟨xs, _, _, rfl, hDD, by show Spans K H1 xs (optR W.pass z j ++ []); rw [List.append_nil]; exact hsp, hs⟩ (fun k σ H2 _ hI => ?_) (fun k v σ H2 H3 hk hI hy => ?_) (fun σ H2 hI => ?_)
    · obtain ⟨xs, y5, y6, rfl, _, _, hs⟩ := hI
      exact Same.tup hs p3
    · obtain ⟨xs, y5, y6, rfl, hDD, hsp, hs⟩ := hI
      obtain ⟨tp, v, rfl, htp, rfl, hv⟩ := hy
      obtain ⟨c, hc, pb, pd, ts, rfl, c1, c2⟩ := paired_at q3 hv
      have sA := hs.trans (same_new htp (.tup [.int (0 + (k : Nat)), .ref pb]))
      have hDA := same_new htp (.tup [.int (0 + (k : Nat)), .ref pb]) _ _ hDD
      have hspA := hsp.same (same_new htp (.tup [.int (0 + (k : Nat)), .ref pb]))
      have hll := paired_len hsp
      have hrm := room_opts ok nP (Nat.le_of_lt hj) (j := k) (z.earliest + (j : Int))
      have kl : k ≤ 10 := by omega
      refine ⟨tp, _, rfl, SqT.of upd_same, rfl, _, _, rfl, _, _, rfl, rfl, ?_⟩
      generalize (upd H2 tp (.tup [.int (0 + (k : Nat)), .ref pb])) = H4 at sA hDA hspA
      have ea := optAt_some (r := z) (s := z.earliest + (j : Int)) hc
      have no : okP z (z.earliest + (j : Int)) c = false → Spans K H4 xs (optR W.pass z j ++ optS W.pass z (z.earliest + (j : Int)) (k + 1)) := fun e => by
        rw [optS_succ, ea, e, if_neg Bool.false_ne_true, List.append_nil]
        exact hspA
      refine ⟨_, rfl, pb, CP, pd, _, _, rfl, sA _ _ c1, T.c_Pass.cl, T.n_Pass_satellite, lk_Pass_satellite, _, rfl, ob, CR, od, _, _, rfl, sA _ _ o1, T.c_Recording.cl, T.n_Recording_satellite, lk_Recording_satellite, rfl, _, rfl, ite2 (fun e1 => ?_) (fun e1 => iteF ?_)⟩
      · refine ⟨_, rfl, _, rfl, ob, CR, od, _, _, rfl, sA _ _ o1, T.c_Recording.cl, T.n_Recording_length, lk_Recording_length, _, _, rfl, rfl, _, rfl, pb, CP, pd, _, _, rfl, sA _ _ c1, T.c_Pass.cl, T.n_Pass_span, lk_Pass_span, ts, _, 0, _, rfl, rfl, Same.tup sA c2, rfl, _, _, rfl, rfl, _, rfl, ite2 (fun e2 => ?_) (fun e2 => ?_)⟩
        · refine ⟨_, rfl, pb, CP, pd, _, _, rfl, sA _ _ c1, T.c_Pass.cl, T.n_Pass_span, lk_Pass_span, ts, _, 1, _, rfl, rfl, Same.tup sA c2, rfl, _, rfl, ob, CR, od, _, _, rfl, sA _ _ o1, T.c_Recording.cl, T.n_Recording_deadline, lk_Recording_deadline, _, _, rfl, rfl, _, rfl, ite2 (fun e3 => ?_) (fun e3 => ?_)⟩
          · refine ⟨_, rfl, .inl ⟨rfl, _, SqL.of hDA⟩, _, rfl, _, rfl, sz2_, fun t ht => ?_⟩
            have sB := same_new ht (.tup [.int (z.earliest + (j : Int)), .int (0 + (k : Nat))])
            refine ⟨D, xs, .ref t, rfl, rfl, sB _ _ hDA, by rw [hll]; exact small1000 (by omega), ?_⟩
            have yes : okP z (z.earliest + (j : Int)) c = true := by
              unfold okP
              rw [show decide ((c.sat : Int) = (z.sat : Int)) = true from decide_eq_true (V.int.inj (of_decide_eq_true e1)), show decide (z.earliest + (j : Int) + z.length ≤ c.first) = true from e2, show decide (c.fin ≤ z.deadline) = true from e3]
              rfl
            refine ⟨xs ++ [.ref t], _, _, rfl, upd_same, ?_, same_at hD (sA.trans sB) _⟩
            rw [optS_succ, ea, yes, if_pos rfl, ← List.append_assoc]
            exact Spans.upd (paired_snoc (hspA.same sB) ⟨t, rfl, SqT.of (by rw [upd_same, Int.zero_add])⟩) (sB _ _ hDA)
          · refine ⟨xs, _, _, rfl, hDA, no ?_, sA⟩
            unfold okP
            rw [show decide (c.fin ≤ z.deadline) = false from Bool.eq_false_iff.mpr e3, Bool.and_false, Bool.and_false]
        · refine ⟨xs, _, _, rfl, hDA, no ?_, sA⟩
          unfold okP
          rw [show decide (z.earliest + (j : Int) + z.length ≤ c.first) = false from Bool.eq_false_iff.mpr e2, Bool.false_and, Bool.and_false]
      · refine ⟨xs, _, _, rfl, hDA, no ?_, sA⟩
        unfold okP
        rw [show decide ((c.sat : Int) = (z.sat : Int)) = false from decide_eq_false fun q => e1 (decide_eq_true (by rw [q])), Bool.false_and]
    · obtain ⟨xs, y5, y6, rfl, hDD, hsp, hs⟩ := hI
      rw [l3, ← optR_succ] at hsp
      exact ⟨xs, _, _, _, rfl, hDD, hsp, hs⟩
  · obtain ⟨xs, y4, y5, y6, rfl, hDD, hsp, hs⟩ := hI
    exact ⟨_, rfl, q D xs _ hs hD hDD hsp⟩
end
end DP
namespace DP
open PySem PySem.Spec PyProof.Rows L2
theorem hu65 {k : Nat} {A : Around} (hr : Room k A) : A.units + 65 < cLine := by have := hr.un; omega
theorem lay_map {α : Type} {f : α → PyData} (h : ∀ a, (f a).canLay0 = true) : ∀ l : List α, PyData.canLayAll0 (l.map f) = true
  | [] => rfl
  | a :: r => by
    show ((f a).canLay0 && PyData.canLayAll0 (r.map f)) = true
    rw [h a, lay_map h r]
    rfl
theorem depth_map {α : Type} {f : α → PyData} {n : Nat} (h : ∀ a, (f a).depth ≤ n) : ∀ l : List α, PyData.depthAll (l.map f) ≤ n
  | [] => Nat.zero_le _
  | a :: r => by
    show max (f a).depth (PyData.depthAll (r.map f)) ≤ n
    exact Nat.max_le.mpr ⟨h a, depth_map h r⟩
end DP
namespace DP
open PySem PySem.Spec PyProof.Rows L2
theorem hu64 {k : Nat} {A : Around} (hr : Room k A) : A.units + 64 < cLine := by have := hr.un; omega
theorem case_two {K : PySem.W.Frag} {H : Hp} {v : V} {c : CaseD} (h : Dp K H v (casePy c)) : ∃ t tm tt xm xt, v = .ref t ∧ SqT K H t [.ref tm, .ref tt] ∧ SqT K H tm xm ∧ SqT K H tt xt ∧ DpAll K H xm (c.made.map entM) ∧ DpAll K H xt (c.taken.map entT) ∧ xm.length = c.made.length ∧ xt.length = c.taken.length := by
  obtain ⟨t, xs, rfl, ht, hx⟩ := dp_tup h
  cases hx with
  | cons a0 hx =>
  cases hx with
  | cons a1 hx =>
  cases hx
  obtain ⟨tm, xm, rfl, hm, hxm⟩ := dp_tup a0
  obtain ⟨tt, xt, rfl, htt, hxt⟩ := dp_tup a1
  have lm := dpAll_len hxm
  have lt := dpAll_len hxt
  rw [List.length_map] at lm lt
  exact ⟨t, tm, tt, xm, xt, rfl, ht, hm, htt, hxm, hxt, lm, lt⟩
end DP
namespace DP
open PySem PySem.Spec PyProof.Rows L2
def gStar (K : PySem.W.Frag) (i : Nat) (t : TGs) : TG := fun v σ H Q => ∃ a xs, v = .ref a ∧ SqT K H a xs ∧ i ≤ xs.length ∧ xs.length ≤ 1000 ∧ ∀ D, H D = none → t (xs.take i ++ [.ref D]) σ (upd H D (.lst (xs.drop i))) Q
section
variable {X : Cx}
theorem pgs_consS {e : Expr} {es : List Expr} {t : TG} {u : TGs} {p : Pos} (h1 : PG X e t) (h2 : PGs X es u)
    (hs : (assignEach (.Starred e p :: es) X.env).map (·.2) = assign e X.env :: (assignEach es X.env).map (·.2) := by rfl) : PGs X (.Starred e p :: es) (gCons t u) := by
  refine ⟨fun pins s σ H vs us Q I r h => ?_⟩
  obtain ⟨v, vr, e1, h⟩ := h
  subst e1
  cases r with
  | cons r rr =>
    rw [hs]
    refine assignInOrder_cons (thn (h1.run pins s σ H _ _ _ I r h) fun _ s1 ⟨σ1, H1, I1, q1⟩ => ?_)
    exact h2.run pins s1 σ1 H1 _ _ Q I1 rr q1
theorem vals_take : ∀ {xs : List V} {us : List Value} (i : Nat), Vals xs us → Vals (xs.take i) (us.take i)
  | _, _, 0, _ => .nil
  | _, _, _ + 1, .nil => .nil
  | _, _, i + 1, .cons r t => .cons r (vals_take i t)
theorem vals_drop : ∀ {xs : List V} {us : List Value} (i : Nat), Vals xs us → Vals (xs.drop i) (us.drop i)
  | _, _, 0, h => h
  | _, _, _ + 1, .nil => .nil
  | _, _, i + 1, .cons _ t => vals_drop i t
theorem vals_snoc : ∀ {xs : List V} {us : List Value} {x : V} {u : Value}, Vals xs us → RelV x u → Vals (xs ++ [x]) (us ++ [u])
  | _, _, _, _, .nil, h => .cons h .nil
  | _, _, _, _, .cons r t, h => .cons r (vals_snoc t h)
theorem unpack_star {prog : Program} {w : World} {A : Around} {E : Value → Shared → Prop} {s : Shared} {l : Addr} {items : Array Value} {i : Nat} {Q : List Value → Shared → Prop} (hl : IsTup s.heap l items) (hh : A.handled = none) (hi : i ≤ items.size) (hz : items.size ≤ 1000)
    (h : ∀ (h' : Heap) (tk : Nat), (∀ b o, s.heap.get? b = some o → h'.get? b = some o) → Q (items.toList.take i ++ [.ref h'.objs.size]) { s with heap := h'.push { cls := .type "list", data := .seq (items.toList.drop i).toArray }, toks := tk }) : wpAny (model prog w) A (unpackItems (.ref l) (i + 1) (some i)) Q E s := by
  have hlt : l ≠ s.heap.objs.size := by obtain ⟨o, ho, _⟩ := hl; exact Nat.ne_of_lt (Heap.lt_size ho)
  unfold unpackItems
  refine wpAny_bind ?_
  unfold notIterableAtAll
  refine wpAny_bind (wpAny_specialOf hl.typeIs slot_tuple_iter.lookup ?_)
  refine wpAny_pure ?_
  simp only [Bool.false_eq_true, if_false]
  refine wpAny_bind (wpAny_holding (iter_tuple hl ?_))
  refine wpAny_bind (wpAny_holding (draw_tuple hlt i 0 _ _ ⟨_, Heap.get?_push_size _ rfl, rfl, rfl⟩ (hl.push _) (by omega) fun h₁ hit₁ hs₁ => ?_))
  have hl₁ : IsTup h₁ l items := (hl.push _).extBut hs₁.extBut hlt
  rw [Nat.zero_add] at hit₁
  have hit₁' := hit₁
  obtain ⟨oi, hoi, _⟩ := hit₁'
  have hl₁' := hl₁
  obtain ⟨ol, hol, _⟩ := hl₁'
  rw [List.drop_zero]
  have hfl : (items.toList.take i).length = i := by rw [List.length_take, Array.length_toList]; omega
  rw [if_neg (show ¬ ((items.toList.take i).length < i) by rw [hfl]; omega)]
  refine wpAny_bind (wpAny_holding (PySem.W.kun_collect (s := { s with heap := h₁ }) (T := "tuple_iterator") (.inr (.inr (.inr rfl))) (Walks.tuple (A := A.in1) hh s.heap.objs.size l hlt items) (fun j u st => st.1.typeIs) (k := i) (by omega) ⟨hit₁, hl₁⟩ (Heap.lt_size hoi) (Heap.lt_size hol) (fun h₂ tk hk => ?_) (by rw [sizeLine_eq]; omega)))
  have hrl : (items.toList.drop i).length = items.size - i := by rw [List.length_drop, Array.length_toList]
  show wpAny _ _ (if (items.toList.drop i).length < i + 1 - 1 - i then _ else _) _ _ _
  rw [if_neg (by omega)]
  have hmid : (items.toList.drop i).length - (i + 1 - 1 - i) = (items.toList.drop i).length := by omega
  show wpAny _ _ (newList ((items.toList.drop i).take ((items.toList.drop i).length - (i + 1 - 1 - i))) >>= fun d => pure (items.toList.take i ++ [d] ++ (items.toList.drop i).drop ((items.toList.drop i).length - (i + 1 - 1 - i)))) _ _ _
  rw [hmid, List.take_length, List.drop_length]
  refine wpAny_bind (wpAny_newList (s := { s with heap := h₂, toks := tk }) (wpAny_pure ?_))
  rw [List.append_nil]
  exact h h₂ tk fun b o e => hk b o (Nat.ne_of_lt (Heap.lt_size e)) (hs₁.extBut b o (Nat.ne_of_lt (Heap.lt_size e)) (Heap.get?_push_of_some _ e))
theorem pg_star {pos : Pos} {es : List Expr} {k : Nat} {t : TGs} {i : Nat} (hc : X.calm = true) (h : PGs X es t)
    (hn : (assignEach es X.env).length = i + 1 := by rfl) (hst : (assignEach es X.env).findIdx? (·.1) = some i := by rfl) : PG X (.Tuple es k pos) (gStar X.K i t) := by
  refine ⟨fun pins s σ H v u Q I r hw => ?_⟩
  obtain ⟨a, xs, e1, hq, hl, hl2, hw⟩ := hw
  subst e1
  cases r
  obtain ⟨its, rv, ht, hz⟩ := I.tuple hq
  have el : its.length = xs.length := rv.length.symm
  rw [PyProof.Rows.assign_Tuple]
  refine wpAny_bind (wpAny_standAt ?_)
  unfold unpack
  rw [hn, hst]
  refine wpAny_bind (wpAny_holding (unpack_star ht (I.ok.hd hc) (by simp; omega) (by simp; omega) fun h' tk hx => ?_))
  have I1 : Inv X pins σ H { s with heap := h', toks := tk } := I.kept (t' := tk) hx
  have hf : H h'.objs.size = none := I1.hok.fresh (Nat.le_refl _)
  have I2 : Inv X pins σ (upd H h'.objs.size (.lst (xs.drop i))) { s with heap := h'.push { cls := .type "list", data := .seq (its.drop i).toArray }, toks := tk } := by
    refine I1.laid (t' := tk) (fun b u e => Heap.get?_push_of_some _ e) (Nat.le_refl _) ?_
    exact ⟨by rw [List.length_drop]; exact small (by omega), its.drop i, 0, vals_drop i rv, Heap.get?_push_size _ rfl⟩
  refine h.run pins _ σ _ _ _ Q (by simpa using I2) ?_ (hw _ hf)
  simpa using vals_snoc (vals_take i rv) (show RelV (.ref h'.objs.size) (.ref h'.objs.size) from rfl)
end
end DP
namespace DP
open PySem PySem.Spec PyProof.Rows L2
abbrev s_minutes_within : Stmt := topS 15
theorem sc_minutes_within : FnScope ["spans", "first", "end", "span"] ["spans", "first", "end"] (defScope s_minutes_within) := ⟨rfl, rfl, rfl, by decide +kernel, rfl, by decide +kernel, by decide +kernel⟩
abbrev s_light_minutes : Stmt := topS 33
theorem sc_light_minutes : FnScope ["satellite", "first", "end"] ["satellite", "first", "end"] (defScope s_light_minutes) := ⟨rfl, rfl, rfl, by decide +kernel, rfl, by decide +kernel, by decide +kernel⟩
section
variable {P : Program} {w : World} {K : PySem.W.Frag} {mg : Str → Option Value} {base : Heap} {CL CS CT CR CP CW aS aR fS fT fR fP : Addr}
def spWithin (K : PySem.W.Frag) : Sp := fun vs H Q _ => ∃ (t : Addr) (xs : List V) (qs : List (Int × Int)) (f e : Int), vs = [.ref t, .int f, .int e] ∧ SqT K H t xs ∧ Spans K H xs qs ∧ qs.length ≤ 1000 ∧ ∀ H', Same H H' → Q (.int (mw qs f e)) H'
theorem d_minutes_within (B : Bt mg) (A : At K mg "minutes_within" s_minutes_within ["spans", "first", "end"]) : DefOk P w K mg base CX0 1 "minutes_within" ["spans", "first", "end"] (spWithin K) := by
  refine A.ok sc_minutes_within (fun vs H Q E h => ?_) (fun f cdv A outer s H vs Q E hr h => ?_)
  · obtain ⟨t, xs, qs, f, e, rfl, _⟩ := h
    rfl
  obtain ⟨t, xs, qs, f, e, rfl, h1, h2, hl, q⟩ := h
  refine ⟨_, pss_one (ps_ret (pe_callB (cr_sum rfl) (by rfl) B.sum (by decide +kernel) (pa_cons (pe_lc (own := [("span", 3)])  rfl sc_minutes_within.nd (pi_tup (pv 0)) (blkOk_by (own := [("span", 3)]) (N := ["spans", "first", "end", "span"]) (sc := defScope s_minutes_within) (by decide +kernel)) (fun _ _ _ _ _ => pg_name (i := 3) sc_minutes_within.nd rfl (Or.inl rfl)) (fun _ _ _ _ _ => pts_nil) (fun _ _ _ _ _ => (pe_callB (call_max2 rfl) (by rfl) B.max (by decide +kernel) (pa_cons pe_int (pa_cons (pe_op op_sub (pe_callB (call_min2 rfl) (by rfl) B.min (by decide +kernel) (pa_cons (pv 2) (pa_cons (pe_ix (ix_tupK (K := K) rfl) (pv 3) pe_int (fun _ _ => rfl)) pa_nil))) (pe_callB (call_max2 rfl) (by rfl) B.max (by decide +kernel) (pa_cons (pv 1) (pa_cons (pe_ix (ix_tupK (K := K) rfl) (pv 3) pe_int (fun _ _ => rfl)) pa_nil)))) pa_nil))))) pa_nil)))
    , ?_⟩
  have hlen := paired_len h2
  refine ⟨_, rfl, t, rfl, ⟨_, h1⟩, fun D hD => lc_tup (K := K) (a := t) (xs := xs) (fun i H' => i ≤ xs.length ∧ Same H H' ∧ H' D = some (.lst (((qs.take i).map (mwOne f e)).map V.int))) ⟨Nat.zero_le _, same_new hD _, upd_same⟩ (fun i H' _ h => Same.tup h.2.1 h1) (fun i x H1 hx hI => ?_) (fun H1 hI => ?_)⟩
  · obtain ⟨_, hs, hDD⟩ := hI
    obtain ⟨y, hy, p, rfl, hp⟩ := paired_at h2 hx
    have hi : i < xs.length := (List.getElem?_eq_some_iff.mp hx).1
    have hp1 := Same.tup hs hp
    refine ⟨rfl, ?_⟩
    refine ⟨_, rfl, _, rfl, p, _, 1, .int y.2, rfl, rfl, hp1, rfl, _, _, rfl, _, rfl, _, rfl, p, _, 0, .int y.1, rfl, rfl, hp1, rfl, _, _, rfl, _, _, rfl, rfl, _, _, rfl, ?_⟩
    refine ⟨_, hDD, ?_, hi, same_at hD hs _, ?_⟩
    · rw [List.length_map, List.length_map, List.length_take]
      exact small1000 (by omega)
    · rw [upd_same, List.take_add_one, hy, List.map_append, List.map_append]
      rfl
  · obtain ⟨_, hs, hDD⟩ := hI
    rw [hlen, List.take_length] at hDD
    exact ⟨D, _, rfl, SqL.of hDD, q H1 hs⟩
def spLightM (K : PySem.W.Frag) (CS : Addr) : Sp := fun vs H Q _ => ∃ (x : V) (z : SatD) (f e : Int), vs = [x, .int f, .int e] ∧ SatAt K CS H x z ∧ z.light.length ≤ 1000 ∧ ∀ H', Same H H' → Q (.int (mw z.light f e)) H'
theorem d_light_minutes (T : TxtW K mg CL CS CT CR CP CW aS aR fS fT fR fP) (D_minutes_within : DefOk P w K mg base CX0 1 "minutes_within" ["spans", "first", "end"] (spWithin K)) (A : At K mg "light_minutes" s_light_minutes ["satellite", "first", "end"]) :
    DefOk P w K mg base CX0 2 "light_minutes" ["satellite", "first", "end"] (spLightM K CS) := by
  refine A.ok sc_light_minutes (fun vs H Q E h => ?_) (fun f cdv A outer s H vs Q E hr h => ?_)
  · obtain ⟨x, z, f, e, rfl, _⟩ := h
    rfl
  obtain ⟨x, z, f, e, rfl, hx, hl, q⟩ := h
  obtain ⟨a, dx, t, ls, rfl, g1, g2, g3⟩ := hx
  refine ⟨_, pss_one (ps_ret (pe_f D_minutes_within (hr.mono (by omega)) pass0 (pa_cons (pe_fld (pv 0) rfl) (pa_cons (pv 1) (pa_cons (pv 2) pa_nil)))))
    , ?_⟩
  refine ⟨_, rfl, a, CS, dx, _, _, rfl, g1, T.c_Satellite.cl, T.n_Satellite_light, (show List.lookup ("light" : Str) (satF z t) = some (.ref t) from by unfold satF; repeat (first | exact lk_hit | rw [lk_miss (by decide +kernel)])), _, rfl, _, rfl, t, ls, z.light, f, e, rfl, g2, g3, hl, fun H' s' => q H' s'⟩
/-- spans that do not meet: a minute is in one of them or in none -/
theorem any_one {m h : Int} : ∀ {l : List (Int × Int)} {a : Int}, LightOk a h l → (m < a → l.any (hasM m) = false) ∧ ((l.filter (hasM m)).length : Int) = if l.any (hasM m) = true then 1 else 0
  | [], a, _ => ⟨fun _ => rfl, rfl⟩
  | q :: r, a, ⟨h1, h2, h3, h4⟩ => by
    obtain ⟨i1, i2⟩ := any_one (m := m) h4
    constructor
    · intro hm
      rw [List.any_cons, i1 (by omega), Bool.or_false]
      unfold hasM
      rw [decide_eq_false (by omega : ¬ q.1 ≤ m), Bool.false_and]
    · rw [List.any_cons, List.filter_cons]
      by_cases c : hasM m q = true
      · have hm : m < q.2 := by
          unfold hasM at c
          rw [Bool.and_eq_true] at c
          exact of_decide_eq_true c.2
        rw [i1 hm, if_neg Bool.false_ne_true] at i2
        rw [c, if_pos rfl, Bool.true_or, if_pos rfl, List.length_cons]
        omega
      · rw [if_neg c, Bool.eq_false_iff.mpr c, Bool.false_or]
        exact i2
theorem light_lt {h : Int} : ∀ {l : List (Int × Int)} {a : Int}, LightOk a h l → ∀ q ∈ l, q.1 < q.2
  | [], _, _, q, hq => absurd hq List.not_mem_nil
  | p :: r, a, ⟨h1, h2, h3, h4⟩, q, hq => by
    rcases List.mem_cons.mp hq with rfl | hq
    · omega
    · exact light_lt h4 q hq
end
end DP
namespace DP
open PySem PySem.Spec PyProof.Rows L2
abbrev s_lengthened : Stmt := topS 13
theorem sc_lengthened : FnScope ["span", "minutes", "first", "end"] ["span", "minutes"] (defScope s_lengthened) := ⟨rfl, rfl, rfl, by decide +kernel, rfl, by decide +kernel, by decide +kernel⟩
section
variable {P : Program} {w : World} {K : PySem.W.Frag} {mg : Str → Option Value} {base : Heap}
def spLength (K : PySem.W.Frag) : Sp := fun vs H Q _ => ∃ (a : Addr) (x : Int × Int) (n : Int), vs = [.ref a, .int n] ∧ SqT K H a [.int x.1, .int x.2] ∧ ∀ t H', Same H H' → SqT K H' t [.int x.1, .int (x.2 + n)] → Q (.ref t) H'
theorem d_lengthened (B : Bt mg) (A : At K mg "lengthened" s_lengthened ["span", "minutes"]) : DefOk P w K mg base CX0 1 "lengthened" ["span", "minutes"] (spLength K) := by
  refine A.ok sc_lengthened (fun vs H Q E h => ?_) (fun f cdv A outer s H vs Q E hr h => ?_)
  · obtain ⟨a, x, n, rfl, _⟩ := h
    rfl
  obtain ⟨a, x, n, rfl, ha, q⟩ := h
  refine ⟨_, pss_cons (ps_asg (pv 0) (pg_tup (by rfl) (pgs_cons (pg_name (i := 2) sc_lengthened.nd rfl (Or.inl rfl)) (pgs_cons (pg_name (i := 3) sc_lengthened.nd rfl (Or.inl rfl)) (pgs_nil)))))
  (pss_one (ps_ret (pe_tup (pa_cons (pv 2) (pa_cons (pe_op op_add (pv 3) (pv 1)) pa_nil)))))
    , ?_⟩
  refine ⟨_, rfl, a, _, rfl, ha, rfl, _, _, rfl, _, _, rfl, rfl, ?_⟩
  exact ⟨_, rfl, _, rfl, _, rfl, _, _, rfl, rfl, sz2_, fun t ht => q t _ (same_new ht _) (SqT.of upd_same)⟩
end
end DP
namespace DP
open PySem PySem.Spec PyProof.Rows L2
inductive RowD where
  | room (p : Nat) : RowD
  | sta (s m : Nat) : RowD
  | sat (s m : Nat) : RowD
  | store (s m : Nat) : RowD
  | energy (s m : Nat) : RowD
  | efrom (s m0 m : Nat) : RowD
def RowD.word : RowD → Str
  | .room _ => "room"
  | .sta _ _ => "station"
  | .sat _ _ => "satellite"
  | .store _ _ => "store"
  | .energy _ _ => "energy"
  | .efrom _ _ _ => "energy from"
def RowD.num : RowD → Nat
  | .room p => p
  | .sta s _ => s
  | .sat s _ => s
  | .store s _ => s
  | .energy s _ => s
  | .efrom s _ _ => s
def RowD.mins : RowD → List Nat
  | .room _ => []
  | .sta _ m => [m]
  | .sat _ m => [m]
  | .store _ m => [m]
  | .energy _ m => [m]
  | .efrom _ m0 m => [m0, m]
def RowD.many (W : WorldD) : RowD → Nat
  | .room _ => W.pass.length
  | .sta _ _ => W.stas.length
  | .sat _ _ => W.sats.length
  | .store _ _ => W.sats.length
  | .energy _ _ => W.sats.length
  | .efrom _ _ _ => W.sats.length
def RowD.asc : RowD → Prop
  | .efrom _ m0 m => m0 < m
  | _ => True
structure RowOk (W : WorldD) (r : RowD) : Prop where
  num : r.num < r.many W
  mins : ∀ m ∈ r.mins, (m : Int) < W.horizon
  asc : r.asc
def minV (ms : List Nat) : List V := ms.map fun (m : Nat) => V.int (m : Int)
def rowV (r : RowD) : List V := .str r.word :: .int (r.num : Int) :: minV r.mins
end DP
namespace DP
open PySem PySem.Spec PyProof.Rows L2
abbrev s_has_minute : Stmt := topS 14
theorem sc_has_minute : FnScope ["span", "minute"] ["span", "minute"] (defScope s_has_minute) := ⟨rfl, rfl, rfl, by decide +kernel, rfl, by decide +kernel, by decide +kernel⟩
abbrev s_busy_part : Stmt := topS 51
theorem sc_busy_part : FnScope ["world", "number", "span", "minute", "settle"] ["world", "number", "span", "minute"] (defScope s_busy_part) := ⟨rfl, rfl, rfl, by decide +kernel, rfl, by decide +kernel, by decide +kernel⟩
abbrev s_is_spent : Stmt := topS 52
theorem sc_is_spent : FnScope ["first", "minutes"] ["first", "minutes"] (defScope s_is_spent) := ⟨rfl, rfl, rfl, by decide +kernel, rfl, by decide +kernel, by decide +kernel⟩
abbrev s_charged : Stmt := topS 54
theorem sc_charged : FnScope ["satellite", "first", "end"] ["satellite", "first", "end"] (defScope s_charged) := ⟨rfl, rfl, rfl, by decide +kernel, rfl, by decide +kernel, by decide +kernel⟩
abbrev s_right_side : Stmt := topS 53
theorem sc_right_side : FnScope ["world", "row", "word", "number", "minutes", "satellite", "first", "last"] ["world", "row"] (defScope s_right_side) := ⟨rfl, rfl, rfl, by decide +kernel, rfl, by decide +kernel, by decide +kernel⟩
theorem rw_sat {K : PySem.W.Frag} {CS : Addr} {H : Hp} {x0 : List V} {l : List SatD} (q0 : Paired (SatAt K CS H) x0 l) {i : Nat} {z : SatD} (hz : l[i]? = some z) : ∃ sb sd ts ls, x0[i]? = some (.ref sb) ∧ H sb = some (.ins CS sd (satF z ts)) ∧ SqT K H ts ls ∧ Spans K H ls z.light := by
  have l2 := paired_len q0
  obtain ⟨x, hx⟩ : ∃ x, x0[i]? = some x := ⟨_, List.getElem?_eq_getElem (by have := (List.getElem?_eq_some_iff.mp hz).1; omega)⟩
  obtain ⟨z', hz', sb, sd, ts, ls, rfl, c1, c2, c3⟩ := paired_at q0 hx
  rw [hz] at hz'
  cases hz'
  exact ⟨sb, sd, ts, ls, hx, c1, c2, c3⟩
theorem rw_sta {CT : Addr} {H : Hp} {x1 : List V} {l : List StaD} (q1 : Paired (StaAt CT H) x1 l) {i : Nat} {z : StaD} (hz : l[i]? = some z) : ∃ ob od, x1[i]? = some (.ref ob) ∧ H ob = some (.ins CT od (staF z)) := by
  have l2 := paired_len q1
  obtain ⟨x, hx⟩ : ∃ x, x1[i]? = some x := ⟨_, List.getElem?_eq_getElem (by have := (List.getElem?_eq_some_iff.mp hz).1; omega)⟩
  obtain ⟨z', hz', ob, od, rfl, o1⟩ := paired_at q1 hx
  rw [hz] at hz'
  cases hz'
  exact ⟨ob, od, hx, o1⟩
theorem rw_rec {CR : Addr} {H : Hp} {x2 : List V} {l : List RecD} (q2 : Paired (RecAt CR H) x2 l) {i : Nat} {z : RecD} (hz : l[i]? = some z) : ∃ ob od, x2[i]? = some (.ref ob) ∧ H ob = some (.ins CR od (recF z)) := by
  have l2 := paired_len q2
  obtain ⟨x, hx⟩ : ∃ x, x2[i]? = some x := ⟨_, List.getElem?_eq_getElem (by have := (List.getElem?_eq_some_iff.mp hz).1; omega)⟩
  obtain ⟨z', hz', ob, od, rfl, o1⟩ := paired_at q2 hx
  rw [hz] at hz'
  cases hz'
  exact ⟨ob, od, hx, o1⟩
theorem rw_pas {K : PySem.W.Frag} {CP : Addr} {H : Hp} {x3 : List V} {l : List PasD} (q3 : Paired (PasAt K CP H) x3 l) {i : Nat} {z : PasD} (hz : l[i]? = some z) : ∃ pb pd ts, x3[i]? = some (.ref pb) ∧ H pb = some (.ins CP pd (pasF z ts)) ∧ SqT K H ts [.int z.first, .int z.fin] := by
  have l2 := paired_len q3
  obtain ⟨x, hx⟩ : ∃ x, x3[i]? = some x := ⟨_, List.getElem?_eq_getElem (by have := (List.getElem?_eq_some_iff.mp hz).1; omega)⟩
  obtain ⟨z', hz', pb, pd, ts, rfl, c1, c2⟩ := paired_at q3 hx
  rw [hz] at hz'
  cases hz'
  exact ⟨pb, pd, ts, hx, c1, c2⟩
def rwSet (W : WorldD) (s : Nat) : Int := match W.sats[s]? with
  | some z => z.settle
  | none => 0
def rwTurn (W : WorldD) (s : Nat) : Int := match W.stas[s]? with
  | some z => z.turn
  | none => 0
def rwFin (W : WorldD) (p : Int) : Int := match W.pass[p.toNat]? with
  | some z => z.fin
  | none => 0
def inM (m a b : Int) : Bool := decide (a ≤ m) && decide (m < b)
def recPart (W : WorldD) (row : RowD) (z : RecD) (st p : Int) : Int := match row with
  | .room q => if p = (q : Int) then z.size else 0
  | .sta _ _ => 0
  | .sat s m => if z.sat = s then (if inM m st (st + z.length + rwSet W s) = true then 1 else 0) else 0
  | .store s m => if z.sat = s then (if inM m st (rwFin W p) = true then z.size else 0) else 0
  | .energy s m => if z.sat = s then (if st ≤ (m : Int) then z.energy else 0) else 0
  | .efrom s m0 m => if z.sat = s then (if st ≤ (m : Int) ∧ (m0 : Int) < st then z.energy else 0) else 0
def pasPart (W : WorldD) (row : RowD) (k : Nat) (z : PasD) : Int := match row with
  | .room q => if k = q then -z.room else 0
  | .sta s m => if z.sta = s then (if inM m z.first (z.fin + rwTurn W s) = true then 1 else 0) else 0
  | .sat s m => if z.sat = s then (if inM m z.first (z.fin + rwSet W s) = true then 1 else 0) else 0
  | .store _ _ => 0
  | .energy s m => if z.sat = s then (if z.first ≤ (m : Int) then z.energy else 0) else 0
  | .efrom s m0 m => if z.sat = s then (if z.first ≤ (m : Int) ∧ (m0 : Int) < z.first then z.energy else 0) else 0
def rightW (W : WorldD) (row : RowD) : Int := match row with
  | .room _ => 0
  | .sta s _ => match W.stas[s]? with
    | some z => z.antennas
    | none => 0
  | .sat _ _ => 1
  | .store s _ => match W.sats[s]? with
    | some z => z.store
    | none => 0
  | .energy s m => match W.sats[s]? with
    | some z => z.level - z.reserve + z.charge * mw z.light 0 m
    | none => 0
  | .efrom s m0 m => match W.sats[s]? with
    | some z => z.battery - z.reserve + z.charge * mw z.light ((m0 : Int) + 1) m
    | none => 0
section
variable {P : Program} {w : World} {K : PySem.W.Frag} {mg : Str → Option Value} {base : Heap} {CL CS CT CR CP CW aS aR fS fT fR fP : Addr}
def spHasM (K : PySem.W.Frag) : Sp := fun vs H Q _ => ∃ (a : Addr) (x : Int × Int) (m : Int), vs = [.ref a, .int m] ∧ SqT K H a [.int x.1, .int x.2] ∧ Q (.bl (inM m x.1 x.2)) H
theorem d_has_minute (B : Bt mg) (A : At K mg "has_minute" s_has_minute ["span", "minute"]) : DefOk P w K mg base CX0 1 "has_minute" ["span", "minute"] (spHasM K) := by
  refine A.ok sc_has_minute (fun vs H Q E h => ?_) (fun f cdv A outer s H vs Q E hr h => ?_)
  · obtain ⟨a, x, m, rfl, _⟩ := h
    rfl
  obtain ⟨a, x, m, rfl, ha, q⟩ := h
  refine ⟨_, pss_one (ps_ret (pe_chain op_le op_lt (pe_ix ix_tup (pv 0) pe_int (fun _ _ => rfl)) (pv 1) (pe_ix ix_tup (pv 0) pe_int (fun _ _ => rfl))))
    , ?_⟩
  refine ⟨_, rfl, a, _, 0, _, rfl, rfl, ha, rfl, _, rfl, _, _, rfl, rfl, _, rfl, ite2 (fun k => ?_) (fun k => ?_)⟩
  · unfold inM at q
    rw [show decide (x.1 ≤ m) = true from k, Bool.true_and] at q
    exact ⟨_, rfl, a, _, 1, _, rfl, rfl, ha, rfl, _, _, rfl, rfl, q⟩
  · unfold inM at q
    rw [show decide (x.1 ≤ m) = false from Bool.eq_false_iff.mpr k, Bool.false_and] at q
    exact q
def spBusyP (K : PySem.W.Frag) (CS CT CR CP CW : Addr) : Sp := fun vs H Q _ => ∃ (ac a : Addr) (W : WorldD) (s : Nat) (z : SatD) (x : Int × Int) (m : Int), vs = [.ref ac, .int (s : Int), .ref a, .int m] ∧ WorldAt K CS CT CR CP CW H ac W ∧ W.sats[s]? = some z ∧ SqT K H a [.int x.1, .int x.2] ∧ ∀ H', Same H H' → Q (.int (if inM m x.1 (x.2 + z.settle) = true then 1 else 0)) H'
theorem d_busy_part (T : TxtW K mg CL CS CT CR CP CW aS aR fS fT fR fP) (D_has_minute : DefOk P w K mg base CX0 1 "has_minute" ["span", "minute"] (spHasM K)) (D_lengthened : DefOk P w K mg base CX0 1 "lengthened" ["span", "minutes"] (spLength K)) (A : At K mg "busy_part" s_busy_part ["world", "number", "span", "minute"]) :
    DefOk P w K mg base CX0 2 "busy_part" ["world", "number", "span", "minute"] (spBusyP K CS CT CR CP CW) := by
  have B := T.L.B
  refine A.ok sc_busy_part (fun vs H Q E h => ?_) (fun f cdv A outer s H vs Q E hr h => ?_)
  · obtain ⟨ac, a, W, n, z, x, m, rfl, _⟩ := h
    rfl
  obtain ⟨ac, a, W, n, z, x, m, rfl, hW, hz, ha, q⟩ := h
  obtain ⟨dx, t0, t1, t2, t3, x0, x1, x2, x3, gw, p0, q0, _⟩ := hW.ex
  obtain ⟨sb, sd, ts, ls, hsb, g1, g2, g3⟩ := rw_sat q0 hz
  refine ⟨_, pss_cons (ps_set (i := 4) sc_busy_part.nd rfl (Or.inl rfl) (pe_fld (pe_ix ix_tup (pe_fld (pv 0) rfl) (pv 1) (fun _ _ => rfl)) rfl))
  (pss_one (ps_ret (pe_ifExp (pt_val (pe_f D_has_minute (hr.mono (by omega)) pass0 (pa_cons (pe_f D_lengthened (hr.mono (by omega)) pass0 (pa_cons (pv 2) (pa_cons (pv 4) pa_nil))) (pa_cons (pv 3) pa_nil)))) pe_int pe_int)))
    , ?_⟩
  refine ⟨_, rfl, ac, CW, dx, _, _, rfl, gw, T.c_World.cl, T.n_World_satellites, lk_World_satellites, _, rfl, t0, x0, (n : Int), _, rfl, rfl, p0, atI_nat hsb, sb, CS, sd, _, _, rfl, g1, T.c_Satellite.cl, T.n_Satellite_settle, lk_Satellite_settle, ?_⟩
  refine ⟨_, rfl, _, rfl, a, x, z.settle, rfl, ha, fun t H1 s1 h1 => ⟨_, rfl, t, (x.1, x.2 + z.settle), m, rfl, h1, _, rfl, ?_⟩⟩
  have q1 := q H1 s1
  refine ite2 (fun k => ?_) (fun k => ?_)
  · rw [if_pos k] at q1
    exact q1
  · rw [if_neg k] at q1
    exact q1
def spSpent (K : PySem.W.Frag) : Sp := fun vs H Q _ => ∃ (D : Addr) (f : Int) (ms : List Nat), vs = [.int f, .ref D] ∧ SqL K H D (minV ms) ∧ ((∃ m, ms = [m] ∧ Q (.bl (decide (f ≤ (m : Int)))) H) ∨ ∃ m0 m, ms = [m0, m] ∧ Q (.bl (decide (f ≤ (m : Int) ∧ (m0 : Int) < f))) H)
theorem d_is_spent (B : Bt mg) (A : At K mg "is_spent" s_is_spent ["first", "minutes"]) : DefOk P w K mg base CX0 1 "is_spent" ["first", "minutes"] (spSpent K) := by
  refine A.ok sc_is_spent (fun vs H Q E h => ?_) (fun f cdv A outer s H vs Q E hr h => ?_)
  · obtain ⟨D, g, ms, rfl, _⟩ := h
    rfl
  obtain ⟨D, g, ms, rfl, hD, q⟩ := h
  refine ⟨_, pss_one (ps_ret (pe_and (pe_cmpR op_le (pv 0) (pe_ix ix_list (pv 1) (pe_un un_neg pe_int) (fun _ _ => rfl)) (nomark _)) (pe_one (pe_or (pe_cmpR op_eq (pe_callB (call_len_seq) (by rfl) B.len (by decide +kernel) (pa_cons (pv 1) pa_nil)) pe_int (nomark _)) (pe_one (pe_cmpR op_lt (pe_ix ix_list (pv 1) pe_int (fun _ _ => rfl)) (pv 0) (nomark _)))))))
    , ?_⟩
  rcases q with ⟨m, rfl, q⟩ | ⟨m0, m, rfl, q⟩
  · refine ⟨_, rfl, _, rfl, _, rfl, D, _, _, _, rfl, rfl, hD, rfl, _, _, rfl, rfl, _, rfl, ite2 (fun k => ?_) (fun k => ?_)⟩
    · have k : g ≤ (m : Int) := of_decide_eq_true k
      rw [decide_eq_true k] at q
      exact ⟨_, rfl, D, _, rfl, .inl hD, rfl, _, rfl, iteT' rfl q⟩
    · rw [decide_eq_false fun h => k (decide_eq_true h)] at q
      exact q
  · refine ⟨_, rfl, _, rfl, _, rfl, D, _, _, _, rfl, rfl, hD, rfl, _, _, rfl, rfl, _, rfl, ite2 (fun k => ?_) (fun k => ?_)⟩
    · have k : g ≤ (m : Int) := of_decide_eq_true k
      refine ⟨_, rfl, D, _, rfl, .inl hD, rfl, _, rfl, iteF' rfl ⟨_, rfl, D, _, 0, _, rfl, rfl, hD, rfl, _, rfl, _, _, rfl, rfl, ?_⟩⟩
      rw [show decide (g ≤ (m : Int) ∧ (m0 : Int) < g) = decide ((m0 : Int) < g) from by
        by_cases c : (m0 : Int) < g
        · rw [decide_eq_true c, decide_eq_true ⟨k, c⟩]
        · rw [decide_eq_false c, decide_eq_false fun h => c h.2]] at q
      exact q
    · rw [decide_eq_false fun h => k (decide_eq_true h.1)] at q
      exact q
def spCharged (K : PySem.W.Frag) (CS : Addr) : Sp := fun vs H Q _ => ∃ (x : V) (z : SatD) (f e : Int), vs = [x, .int f, .int e] ∧ SatAt K CS H x z ∧ z.light.length ≤ 1000 ∧ 0 ≤ z.charge ∧ z.charge ≤ 1000 ∧ ∀ H', Same H H' → Q (.int (z.charge * mw z.light f e)) H'
theorem d_charged (T : TxtW K mg CL CS CT CR CP CW aS aR fS fT fR fP) (D_light_minutes : DefOk P w K mg base CX0 2 "light_minutes" ["satellite", "first", "end"] (spLightM K CS)) (A : At K mg "charged" s_charged ["satellite", "first", "end"]) :
    DefOk P w K mg base CX0 3 "charged" ["satellite", "first", "end"] (spCharged K CS) := by
  have B := T.L.B
  refine A.ok sc_charged (fun vs H Q E h => ?_) (fun f cdv A outer s H vs Q E hr h => ?_)
  · obtain ⟨x, z, f, e, rfl, _⟩ := h
    rfl
  obtain ⟨x, z, f, e, rfl, hx, hl, c0, c1, q⟩ := h
  have hx0 := hx
  obtain ⟨sb, sd, ts, ls, rfl, g1, g2, g3⟩ := hx
  refine ⟨_, pss_one (ps_ret (pe_op op_mul (pe_fld (pv 0) rfl) (pe_f D_light_minutes (hr.mono (by omega)) pass0 (pa_cons (pv 0) (pa_cons (pv 1) (pa_cons (pv 2) pa_nil))))))
    , ?_⟩
  refine ⟨_, rfl, sb, CS, sd, _, _, rfl, g1, T.c_Satellite.cl, T.n_Satellite_charge, lk_Satellite_charge, _, rfl, _, rfl, _, rfl, _, z, f, e, rfl, hx0, hl, fun H1 s1 => ⟨_, _, rfl, rfl, .inl ⟨by omega, by omega⟩, q H1 s1⟩⟩
def spRight (K : PySem.W.Frag) (CS CT CR CP CW : Addr) : Sp := fun vs H Q _ => ∃ (ac t : Addr) (W : WorldD) (r : RowD), vs = [.ref ac, .ref t] ∧ WorldOk W ∧ WorldAt K CS CT CR CP CW H ac W ∧ SqT K H t (rowV r) ∧ RowOk W r ∧ ∀ H', Same H H' → Q (.int (rightW W r)) H'
set_option maxHeartbeats 8000000 in
theorem d_right_side (T : TxtW K mg CL CS CT CR CP CW aS aR fS fT fR fP) (D_charged : DefOk P w K mg base CX0 3 "charged" ["satellite", "first", "end"] (spCharged K CS)) (A : At K mg "right_side" s_right_side ["world", "row"]) :
    DefOk P w K mg base CX0 4 "right_side" ["world", "row"] (spRight K CS CT CR CP CW) := by
  have B := T.L.B
  refine A.ok sc_right_side (fun vs H Q E h => ?_) (fun f cdv A outer s H vs Q E hr h => ?_)
  · obtain ⟨ac, t, W, r, rfl, _⟩ := h
    rfl
  obtain ⟨ac, t, W, r, rfl, wok, hW, ht, rok, q⟩ := h
  refine ⟨_, pss_cons (ps_asg (pv 1) (pg_star (i := 2) (by rfl) (pgs_cons (pg_name (i := 2) sc_right_side.nd rfl (Or.inl rfl)) (pgs_cons (pg_name (i := 3) sc_right_side.nd rfl (Or.inl rfl)) (pgs_consS (pg_name (i := 4) sc_right_side.nd rfl (Or.inl rfl)) (pgs_nil))))))
  (pss_cons (ps_if (pt_cmpR op_eq (pv 2) pe_str (nomark _))
      (pss_one (ps_ret pe_int))
      (pss_nil))
  (pss_cons (ps_if (pt_cmpR op_eq (pv 2) pe_str (nomark _))
      (pss_one (ps_ret (pe_fld (pe_ix ix_tup (pe_fld (pv 0) rfl) (pv 3) (fun _ _ => rfl)) rfl)))
      (pss_nil))
  (pss_cons (ps_if (pt_cmpR op_eq (pv 2) pe_str (nomark _))
      (pss_one (ps_ret pe_int))
      (pss_nil))
  (pss_cons (ps_set (i := 5) sc_right_side.nd rfl (Or.inl rfl) (pe_ix ix_tup (pe_fld (pv 0) rfl) (pv 3) (fun _ _ => rfl)))
  (pss_cons (ps_if (pt_cmpR op_eq (pv 2) pe_str (nomark _))
      (pss_one (ps_ret (pe_fld (pv 5) rfl)))
      (pss_nil))
  (pss_cons (ps_if (pt_cmpR op_eq (pv 2) pe_str (nomark _))
      (pss_one (ps_ret (pe_op op_add (pe_op op_sub (pe_fld (pv 5) rfl) (pe_fld (pv 5) rfl)) (pe_f D_charged (hr.mono (by omega)) pass0 (pa_cons (pv 5) (pa_cons pe_int (pa_cons (pe_ix ix_list (pv 4) pe_int (fun _ _ => rfl)) pa_nil)))))))
      (pss_nil))
  (pss_cons (ps_asg (pv 4) (pg_unl (by rfl) (pgs_cons (pg_name (i := 6) sc_right_side.nd rfl (Or.inl rfl)) (pgs_cons (pg_name (i := 7) sc_right_side.nd rfl (Or.inl rfl)) (pgs_nil)))))
  (pss_one (ps_ret (pe_op op_add (pe_op op_sub (pe_fld (pv 5) rfl) (pe_fld (pv 5) rfl)) (pe_f D_charged (hr.mono (by omega)) pass0 (pa_cons (pv 5) (pa_cons (pe_op op_add (pv 6) pe_int) (pa_cons (pv 7) pa_nil))))))))))))))
    , ?_⟩
  obtain ⟨dx, t0, t1, t2, t3, x0, x1, x2, x3, gw, p0, q0, p1, q1, _⟩ := hW.ex
  cases r with
  | room p =>
    refine ⟨_, rfl, t, _, rfl, ht, (by show 2 ≤ 2; decide), (by show 2 ≤ 1000; decide), fun D hD => ⟨_, _, rfl, _, _, rfl, _, _, rfl, rfl, ?_⟩⟩
    exact ⟨_, rfl, rfl, _, rfl, iteT' (by show decide (V.str (Str.ofString "room") = V.str _) = true; decide +kernel) (q _ (same_new hD _))⟩
  | sta s m =>
    refine ⟨_, rfl, t, _, rfl, ht, (by show 2 ≤ 3; decide), (by show 3 ≤ 1000; decide), fun D hD => ⟨_, _, rfl, _, _, rfl, _, _, rfl, rfl, ?_⟩⟩
    have sD := same_new hD (.lst (minV [m]))
    obtain ⟨z, hz⟩ : ∃ z, W.stas[s]? = some z := ⟨_, List.getElem?_eq_getElem rok.num⟩
    obtain ⟨sb, sd, hsb, g1⟩ := rw_sta q1 hz
    refine ⟨_, rfl, rfl, _, rfl, iteF' (by show decide (V.str (Str.ofString "station") = V.str _) = false; decide +kernel) ?_⟩
    refine ⟨_, rfl, rfl, _, rfl, iteT' (by show decide (V.str (Str.ofString "station") = V.str _) = true; decide +kernel) ?_⟩
    refine ⟨_, rfl, ac, CW, dx, _, _, rfl, sD _ _ gw, T.c_World.cl, T.n_World_stations, lk_World_stations, _, rfl, t1, x1, (s : Int), _, rfl, rfl, Same.tup sD p1, atI_nat hsb, sb, CT, sd, _, _, rfl, sD _ _ g1, T.c_Station.cl, T.n_Station_antennas, lk_Station_antennas, ?_⟩
    have e := q _ sD
    rw [show rightW W (.sta s m) = z.antennas from by show (match W.stas[s]? with | some z => z.antennas | none => 0) = _; rw [hz]] at e
    exact e
  | sat s m =>
    refine ⟨_, rfl, t, _, rfl, ht, (by show 2 ≤ 3; decide), (by show 3 ≤ 1000; decide), fun D hD => ⟨_, _, rfl, _, _, rfl, _, _, rfl, rfl, ?_⟩⟩
    refine ⟨_, rfl, rfl, _, rfl, iteF' (by show decide (V.str (Str.ofString "satellite") = V.str _) = false; decide +kernel) ?_⟩
    refine ⟨_, rfl, rfl, _, rfl, iteF' (by show decide (V.str (Str.ofString "satellite") = V.str _) = false; decide +kernel) ?_⟩
    exact ⟨_, rfl, rfl, _, rfl, iteT' (by show decide (V.str (Str.ofString "satellite") = V.str _) = true; decide +kernel) (q _ (same_new hD _))⟩
  | store s m =>
    refine ⟨_, rfl, t, _, rfl, ht, (by show 2 ≤ 3; decide), (by show 3 ≤ 1000; decide), fun D hD => ⟨_, _, rfl, _, _, rfl, _, _, rfl, rfl, ?_⟩⟩
    have sD := same_new hD (.lst (minV [m]))
    obtain ⟨z, hz⟩ : ∃ z, W.sats[s]? = some z := ⟨_, List.getElem?_eq_getElem rok.num⟩
    obtain ⟨sb, sd, ts, ls, hsb, g1, g2, g3⟩ := rw_sat q0 hz
    refine ⟨_, rfl, rfl, _, rfl, iteF' (by show decide (V.str (Str.ofString "store") = V.str _) = false; decide +kernel) ?_⟩
    refine ⟨_, rfl, rfl, _, rfl, iteF' (by show decide (V.str (Str.ofString "store") = V.str _) = false; decide +kernel) ?_⟩
    refine ⟨_, rfl, rfl, _, rfl, iteF' (by show decide (V.str (Str.ofString "store") = V.str _) = false; decide +kernel) ?_⟩
    refine ⟨_, rfl, ac, CW, dx, _, _, rfl, sD _ _ gw, T.c_World.cl, T.n_World_satellites, lk_World_satellites, _, rfl, t0, x0, (s : Int), _, rfl, rfl, Same.tup sD p0, atI_nat hsb, ?_⟩
    refine ⟨_, rfl, rfl, _, rfl, iteT' (by show decide (V.str (Str.ofString "store") = V.str _) = true; decide +kernel) ?_⟩
    refine ⟨_, rfl, sb, CS, sd, _, _, rfl, sD _ _ g1, T.c_Satellite.cl, T.n_Satellite_store, lk_Satellite_store, ?_⟩
    have e := q _ sD
    rw [show rightW W (.store s m) = z.store from by show (match W.sats[s]? with | some z => z.store | none => 0) = _; rw [hz]] at e
    exact e
  | energy s m =>
    refine ⟨_, rfl, t, _, rfl, ht, (by show 2 ≤ 3; decide), (by show 3 ≤ 1000; decide), fun D hD => ⟨_, _, rfl, _, _, rfl, _, _, rfl, rfl, ?_⟩⟩
    have sD := same_new hD (.lst (minV [m]))
    obtain ⟨z, hz⟩ : ∃ z, W.sats[s]? = some z := ⟨_, List.getElem?_eq_getElem rok.num⟩
    have zok := wok.sats z (List.mem_of_getElem? hz)
    have hh := wok.horizon
    have ll := zok.light.len (by omega)
    obtain ⟨sb, sd, ts, ls, hsb, g1, g2, g3⟩ := rw_sat q0 hz
    refine ⟨_, rfl, rfl, _, rfl, iteF' (by show decide (V.str (Str.ofString "energy") = V.str _) = false; decide +kernel) ?_⟩
    refine ⟨_, rfl, rfl, _, rfl, iteF' (by show decide (V.str (Str.ofString "energy") = V.str _) = false; decide +kernel) ?_⟩
    refine ⟨_, rfl, rfl, _, rfl, iteF' (by show decide (V.str (Str.ofString "energy") = V.str _) = false; decide +kernel) ?_⟩
    refine ⟨_, rfl, ac, CW, dx, _, _, rfl, sD _ _ gw, T.c_World.cl, T.n_World_satellites, lk_World_satellites, _, rfl, t0, x0, (s : Int), _, rfl, rfl, Same.tup sD p0, atI_nat hsb, ?_⟩
    refine ⟨_, rfl, rfl, _, rfl, iteF' (by show decide (V.str (Str.ofString "energy") = V.str _) = false; decide +kernel) ?_⟩
    refine ⟨_, rfl, rfl, _, rfl, iteT' (by show decide (V.str (Str.ofString "energy") = V.str _) = true; decide +kernel) ?_⟩
    refine ⟨_, rfl, sb, CS, sd, _, _, rfl, sD _ _ g1, T.c_Satellite.cl, T.n_Satellite_start_level, lk_Satellite_start_level, _, rfl, sb, CS, sd, _, _, rfl, sD _ _ g1, T.c_Satellite.cl, T.n_Satellite_reserve, lk_Satellite_reserve, _, _, rfl, rfl, ?_⟩
    refine ⟨_, rfl, _, rfl, D, _, 0, _, rfl, rfl, SqL.of upd_same, rfl, .ref sb, z, 0, (m : Int), rfl, ⟨sb, sd, ts, ls, rfl, sD _ _ g1, Same.tup sD g2, g3.same sD⟩, by omega, zok.charge.1, zok.charge.2, fun H1 s1 => ⟨_, _, rfl, rfl, ?_⟩⟩
    have e := q _ (sD.trans s1)
    rw [show rightW W (.energy s m) = z.level - z.reserve + z.charge * mw z.light 0 m from by show (match W.sats[s]? with | some z => z.level - z.reserve + z.charge * mw z.light 0 m | none => 0) = _; rw [hz]] at e
    exact e
  | efrom s m0 m =>
    refine ⟨_, rfl, t, _, rfl, ht, (by show 2 ≤ 4; decide), (by show 4 ≤ 1000; decide), fun D hD => ⟨_, _, rfl, _, _, rfl, _, _, rfl, rfl, ?_⟩⟩
    have sD := same_new hD (.lst (minV [m0, m]))
    obtain ⟨z, hz⟩ : ∃ z, W.sats[s]? = some z := ⟨_, List.getElem?_eq_getElem rok.num⟩
    have zok := wok.sats z (List.mem_of_getElem? hz)
    have hh := wok.horizon
    have ll := zok.light.len (by omega)
    obtain ⟨sb, sd, ts, ls, hsb, g1, g2, g3⟩ := rw_sat q0 hz
    refine ⟨_, rfl, rfl, _, rfl, iteF' (by show decide (V.str (Str.ofString "energy from") = V.str _) = false; decide +kernel) ?_⟩
    refine ⟨_, rfl, rfl, _, rfl, iteF' (by show decide (V.str (Str.ofString "energy from") = V.str _) = false; decide +kernel) ?_⟩
    refine ⟨_, rfl, rfl, _, rfl, iteF' (by show decide (V.str (Str.ofString "energy from") = V.str _) = false; decide +kernel) ?_⟩
    refine ⟨_, rfl, ac, CW, dx, _, _, rfl, sD _ _ gw, T.c_World.cl, T.n_World_satellites, lk_World_satellites, _, rfl, t0, x0, (s : Int), _, rfl, rfl, Same.tup sD p0, atI_nat hsb, ?_⟩
    refine ⟨_, rfl, rfl, _, rfl, iteF' (by show decide (V.str (Str.ofString "energy from") = V.str _) = false; decide +kernel) ?_⟩
    refine ⟨_, rfl, rfl, _, rfl, iteF' (by show decide (V.str (Str.ofString "energy from") = V.str _) = false; decide +kernel) ?_⟩
    refine ⟨_, rfl, D, _, rfl, SqL.of upd_same, rfl, _, _, rfl, _, _, rfl, rfl, ?_⟩
    refine ⟨_, rfl, sb, CS, sd, _, _, rfl, sD _ _ g1, T.c_Satellite.cl, T.n_Satellite_battery, lk_Satellite_battery, _, rfl, sb, CS, sd, _, _, rfl, sD _ _ g1, T.c_Satellite.cl, T.n_Satellite_reserve, lk_Satellite_reserve, _, _, rfl, rfl, ?_⟩
    refine ⟨_, rfl, _, rfl, _, _, rfl, rfl, _, rfl, .ref sb, z, (m0 : Int) + 1, (m : Int), rfl, ⟨sb, sd, ts, ls, rfl, sD _ _ g1, Same.tup sD g2, g3.same sD⟩, by omega, zok.charge.1, zok.charge.2, fun H1 s1 => ⟨_, _, rfl, rfl, ?_⟩⟩
    have e := q _ (sD.trans s1)
    rw [show rightW W (.efrom s m0 m) = z.battery - z.reserve + z.charge * mw z.light ((m0 : Int) + 1) m from by show (match W.sats[s]? with | some z => z.battery - z.reserve + z.charge * mw z.light ((m0 : Int) + 1) m | none => 0) = _; rw [hz]] at e
    exact e
end
end DP
namespace DP
open PySem PySem.Spec PyProof.Rows L2
abbrev s_recording_part : Stmt := topS 49
theorem sc_recording_part : FnScope ["world", "row", "r", "option", "word", "number", "minutes", "recording", "start", "p", "_", "end"] ["world", "row", "r", "option"] (defScope s_recording_part) := ⟨rfl, rfl, rfl, by decide +kernel, rfl, by decide +kernel, by decide +kernel⟩
abbrev s_pass_part : Stmt := topS 50
theorem sc_pass_part : FnScope ["world", "row", "p", "word", "number", "minutes", "chance", "turn", "is_in"] ["world", "row", "p"] (defScope s_pass_part) := ⟨rfl, rfl, rfl, by decide +kernel, rfl, by decide +kernel, by decide +kernel⟩
theorem rwSet_of {W : WorldD} {s : Nat} {z : SatD} (h : W.sats[s]? = some z) : rwSet W s = z.settle := by
  unfold rwSet
  rw [h]
theorem rwTurn_of {W : WorldD} {s : Nat} {z : StaD} (h : W.stas[s]? = some z) : rwTurn W s = z.turn := by
  unfold rwTurn
  rw [h]
theorem rwFin_of {W : WorldD} {k : Nat} {z : PasD} (h : W.pass[k]? = some z) : rwFin W (k : Int) = z.fin := by
  unfold rwFin
  rw [Int.toNat_natCast, h]
theorem sneg {a b : Nat} (h : (!decide (V.int (a : Int) = V.int (b : Int))) = true) : a ≠ b := fun e => by
  rw [e, decide_eq_true (rfl : V.int (b : Int) = V.int (b : Int))] at h
  cases h
theorem spos {a b : Nat} (h : ¬ (!decide (V.int (a : Int) = V.int (b : Int))) = true) : a = b := by
  by_cases c : V.int (a : Int) = V.int (b : Int)
  · have := V.int.inj c
    omega
  · rw [decide_eq_false c] at h
    exact absurd rfl h
section
variable {P : Program} {w : World} {K : PySem.W.Frag} {mg : Str → Option Value} {base : Heap} {CL CS CT CR CP CW aS aR fS fT fR fP : Addr}
def spRecPart (K : PySem.W.Frag) (CS CT CR CP CW : Addr) : Sp := fun vs H Q _ => ∃ (ac t u : Addr) (W : WorldD) (row : RowD) (r : Nat) (z : RecD) (st p : Int), vs = [.ref ac, .ref t, .int (r : Int), .ref u] ∧ WorldAt K CS CT CR CP CW H ac W ∧ SqT K H t (rowV row) ∧ RowOk W row ∧ W.recs[r]? = some z ∧ SqT K H u [.int st, .int p] ∧ 0 ≤ p ∧ p < (W.pass.length : Int) ∧ ∀ H', Same H H' → Q (.int (recPart W row z st p)) H'
set_option maxHeartbeats 8000000 in
theorem d_recording_part (T : TxtW K mg CL CS CT CR CP CW aS aR fS fT fR fP) (D_busy_part : DefOk P w K mg base CX0 2 "busy_part" ["world", "number", "span", "minute"] (spBusyP K CS CT CR CP CW)) (D_has_minute : DefOk P w K mg base CX0 1 "has_minute" ["span", "minute"] (spHasM K)) (D_is_spent : DefOk P w K mg base CX0 1 "is_spent" ["first", "minutes"] (spSpent K))
    (A : At K mg "recording_part" s_recording_part ["world", "row", "r", "option"]) : DefOk P w K mg base CX0 3 "recording_part" ["world", "row", "r", "option"] (spRecPart K CS CT CR CP CW) := by
  have B := T.L.B
  refine A.ok sc_recording_part (fun vs H Q E h => ?_) (fun f cdv A outer s H vs Q E hr h => ?_)
  · obtain ⟨ac, t, u, W, row, r, z, st, p, rfl, _⟩ := h
    rfl
  obtain ⟨ac, t, u, W, row, r, z, st, p, rfl, hW, ht, rok, hz, hu, p0, p1, q⟩ := h
  refine ⟨_, pss_cons (ps_asg (pv 1) (pg_star (i := 2) (by rfl) (pgs_cons (pg_name (i := 4) sc_recording_part.nd rfl (Or.inl rfl)) (pgs_cons (pg_name (i := 5) sc_recording_part.nd rfl (Or.inl rfl)) (pgs_consS (pg_name (i := 6) sc_recording_part.nd rfl (Or.inl rfl)) (pgs_nil))))))
  (pss_cons (ps_set (i := 7) sc_recording_part.nd rfl (Or.inl rfl) (pe_ix ix_tup (pe_fld (pv 0) rfl) (pv 2) (fun _ _ => rfl)))
  (pss_cons (ps_asg (pv 3) (pg_tup (by rfl) (pgs_cons (pg_name (i := 8) sc_recording_part.nd rfl (Or.inl rfl)) (pgs_cons (pg_name (i := 9) sc_recording_part.nd rfl (Or.inl rfl)) (pgs_nil)))))
  (pss_cons (ps_if (pt_cmpR op_eq (pv 4) pe_str (nomark _))
      (pss_one (ps_ret (pe_ifExp (pt_cmpR op_eq (pv 9) (pv 5) (nomark _)) (pe_fld (pv 7) rfl) pe_int)))
      (pss_nil))
  (pss_cons (ps_if (PW.pt (pw_or (pt_cmpR op_eq (pv 4) pe_str (nomark _)) (pw_or1 (pt_cmpR op_ne (pe_fld (pv 7) rfl) (pv 5) (nomark _)))))
      (pss_one (ps_ret pe_int))
      (pss_nil))
  (pss_cons (ps_if (pt_cmpR op_eq (pv 4) pe_str (nomark _))
      (pss_one (ps_ret (pe_f D_busy_part (hr.mono (by omega)) pass0 (pa_cons (pv 0) (pa_cons (pv 5) (pa_cons (pe_tup (pa_cons (pv 8) (pa_cons (pe_op op_add (pv 8) (pe_fld (pv 7) rfl)) pa_nil))) (pa_cons (pe_ix ix_list (pv 6) pe_int (fun _ _ => rfl)) pa_nil)))))))
      (pss_nil))
  (pss_cons (ps_if (pt_cmpR op_eq (pv 4) pe_str (nomark _))
      (pss_cons (ps_asg (pe_fld (pe_ix ix_tup (pe_fld (pv 0) rfl) (pv 9) (fun _ _ => rfl)) rfl) (pg_tup (by rfl) (pgs_cons (pg_name (i := 10) sc_recording_part.nd rfl (Or.inl rfl)) (pgs_cons (pg_name (i := 11) sc_recording_part.nd rfl (Or.inl rfl)) (pgs_nil)))))
      (pss_one (ps_ret (pe_ifExp (pt_val (pe_f D_has_minute (hr.mono (by omega)) pass0 (pa_cons (pe_tup (pa_cons (pv 8) (pa_cons (pv 11) pa_nil))) (pa_cons (pe_ix ix_list (pv 6) pe_int (fun _ _ => rfl)) pa_nil)))) (pe_fld (pv 7) rfl) pe_int))))
      (pss_nil))
  (pss_one (ps_ret (pe_ifExp (pt_val (pe_f D_is_spent (hr.mono (by omega)) pass0 (pa_cons (pv 8) (pa_cons (pv 6) pa_nil)))) (pe_fld (pv 7) rfl) pe_int)))))))))
    , ?_⟩
  obtain ⟨dx, t0, t1, t2, t3, x0, x1, x2, x3, gw, j0, q0, j1, q1, j2, q2, j3, q3⟩ := hW.ex
  obtain ⟨ob, od, hob, o1⟩ := rw_rec q2 hz
  obtain ⟨pk, ek⟩ : ∃ pk : Nat, p = (pk : Int) := ⟨p.toNat, by omega⟩
  subst ek
  obtain ⟨y, hy⟩ : ∃ y, W.pass[pk]? = some y := ⟨_, List.getElem?_eq_getElem (by omega)⟩
  obtain ⟨pb, pd, ts, hpb, c1, c2⟩ := rw_pas q3 hy
  -- the head of the def, up to the words
  have head : ∀ (D : Addr) (ms : List Nat) (H1 : Hp), Same H H1 → H1 D = some (.lst (minV ms)) → True := fun _ _ _ _ _ => True.intro
  cases row with
  | room k =>
    refine ⟨_, rfl, t, _, rfl, ht, (by show 2 ≤ 2; decide), (by show 2 ≤ 1000; decide), fun D hD => ⟨_, _, rfl, _, _, rfl, _, _, rfl, rfl, ?_⟩⟩
    have sD := same_new hD (.lst (minV []))
    refine ⟨_, rfl, ac, CW, dx, _, _, rfl, sD _ _ gw, T.c_World.cl, T.n_World_recordings, lk_World_recordings, _, rfl, t2, x2, (r : Int), _, rfl, rfl, Same.tup sD j2, atI_nat hob, ?_⟩
    refine ⟨_, rfl, u, _, rfl, Same.tup sD hu, rfl, _, _, rfl, _, _, rfl, rfl, ?_⟩
    refine ⟨_, rfl, rfl, _, rfl, iteT' (by show decide (V.str (Str.ofString "room") = V.str _) = true; decide +kernel) ?_⟩
    have e := q _ sD
    refine ⟨_, rfl, _, rfl, rfl, _, rfl, ite2 (fun k1 => ?_) (fun k1 => ?_)⟩
    · have h1 := V.int.inj (of_decide_eq_true k1)
      rw [show recPart W (.room k) z st (pk : Int) = z.size from if_pos h1] at e
      exact ⟨_, rfl, ob, CR, od, _, _, rfl, sD _ _ o1, T.c_Recording.cl, T.n_Recording_size, lk_Recording_size, e⟩
    · have h1 : ¬ (pk : Int) = (k : Int) := fun h => k1 (decide_eq_true (by rw [h]; rfl))
      rw [show recPart W (.room k) z st (pk : Int) = 0 from if_neg h1] at e
      exact e
  | sta s m =>
    refine ⟨_, rfl, t, _, rfl, ht, (by show 2 ≤ 3; decide), (by show 3 ≤ 1000; decide), fun D hD => ⟨_, _, rfl, _, _, rfl, _, _, rfl, rfl, ?_⟩⟩
    have sD := same_new hD (.lst (minV [m]))
    refine ⟨_, rfl, ac, CW, dx, _, _, rfl, sD _ _ gw, T.c_World.cl, T.n_World_recordings, lk_World_recordings, _, rfl, t2, x2, (r : Int), _, rfl, rfl, Same.tup sD j2, atI_nat hob, ?_⟩
    refine ⟨_, rfl, u, _, rfl, Same.tup sD hu, rfl, _, _, rfl, _, _, rfl, rfl, ?_⟩
    refine ⟨_, rfl, rfl, _, rfl, iteF' (by show decide (V.str (Str.ofString "station") = V.str _) = false; decide +kernel) ?_⟩
    exact ⟨_, rfl, rfl, _, rfl, iteT' (by show decide (V.str (Str.ofString "station") = V.str _) = true; decide +kernel) (iteT' rfl (q _ sD))⟩
  | sat s m =>
    refine ⟨_, rfl, t, _, rfl, ht, (by show 2 ≤ 3; decide), (by show 3 ≤ 1000; decide), fun D hD => ⟨_, _, rfl, _, _, rfl, _, _, rfl, rfl, ?_⟩⟩
    have sD := same_new hD (.lst (minV [m]))
    obtain ⟨zs, hzs⟩ : ∃ z, W.sats[s]? = some z := ⟨_, List.getElem?_eq_getElem rok.num⟩
    refine ⟨_, rfl, ac, CW, dx, _, _, rfl, sD _ _ gw, T.c_World.cl, T.n_World_recordings, lk_World_recordings, _, rfl, t2, x2, (r : Int), _, rfl, rfl, Same.tup sD j2, atI_nat hob, ?_⟩
    refine ⟨_, rfl, u, _, rfl, Same.tup sD hu, rfl, _, _, rfl, _, _, rfl, rfl, ?_⟩
    refine ⟨_, rfl, rfl, _, rfl, iteF' (by show decide (V.str (Str.ofString "satellite") = V.str _) = false; decide +kernel) ?_⟩
    refine ⟨_, rfl, rfl, _, rfl, iteF' (by show decide (V.str (Str.ofString "satellite") = V.str _) = false; decide +kernel) ?_⟩
    refine ⟨_, rfl, ob, CR, od, _, _, rfl, sD _ _ o1, T.c_Recording.cl, T.n_Recording_satellite, lk_Recording_satellite, _, rfl, rfl, _, rfl, ite2 (fun k1 => ?_) (fun k1 => ?_)⟩
    · have e := q _ sD
      rw [show recPart W (.sat s m) z st (pk : Int) = 0 from if_neg (sneg k1)] at e
      exact e
    · have es := spos k1
      refine ⟨_, rfl, rfl, _, rfl, iteT' (by show decide (V.str (Str.ofString "satellite") = V.str _) = true; decide +kernel) ?_⟩
      refine ⟨_, rfl, _, rfl, _, rfl, _, rfl, _, rfl, ob, CR, od, _, _, rfl, sD _ _ o1, T.c_Recording.cl, T.n_Recording_length, lk_Recording_length, _, _, rfl, rfl, sz2_, fun v hv => ?_⟩
      have sv := sD.trans (same_new hv (.tup [.int st, .int (st + z.length)]))
      refine ⟨_, rfl, D, _, 0, _, rfl, rfl, SqL.of (same_new hv _ _ _ upd_same), rfl, ac, v, W, s, zs, (st, st + z.length), (m : Int), rfl, hW.same sv, hzs, SqT.of upd_same, fun H2 s2 => ?_⟩
      have e := q _ (sv.trans s2)
      rw [show recPart W (.sat s m) z st (pk : Int) = if inM m st (st + z.length + rwSet W s) = true then 1 else 0 from if_pos es, rwSet_of hzs] at e
      exact e
  | store s m =>
    refine ⟨_, rfl, t, _, rfl, ht, (by show 2 ≤ 3; decide), (by show 3 ≤ 1000; decide), fun D hD => ⟨_, _, rfl, _, _, rfl, _, _, rfl, rfl, ?_⟩⟩
    have sD := same_new hD (.lst (minV [m]))
    refine ⟨_, rfl, ac, CW, dx, _, _, rfl, sD _ _ gw, T.c_World.cl, T.n_World_recordings, lk_World_recordings, _, rfl, t2, x2, (r : Int), _, rfl, rfl, Same.tup sD j2, atI_nat hob, ?_⟩
    refine ⟨_, rfl, u, _, rfl, Same.tup sD hu, rfl, _, _, rfl, _, _, rfl, rfl, ?_⟩
    refine ⟨_, rfl, rfl, _, rfl, iteF' (by show decide (V.str (Str.ofString "store") = V.str _) = false; decide +kernel) ?_⟩
    refine ⟨_, rfl, rfl, _, rfl, iteF' (by show decide (V.str (Str.ofString "store") = V.str _) = false; decide +kernel) ?_⟩
    refine ⟨_, rfl, ob, CR, od, _, _, rfl, sD _ _ o1, T.c_Recording.cl, T.n_Recording_satellite, lk_Recording_satellite, _, rfl, rfl, _, rfl, ite2 (fun k1 => ?_) (fun k1 => ?_)⟩
    · have e := q _ sD
      rw [show recPart W (.store s m) z st (pk : Int) = 0 from if_neg (sneg k1)] at e
      exact e
    · have es := spos k1
      refine ⟨_, rfl, rfl, _, rfl, iteF' (by show decide (V.str (Str.ofString "store") = V.str _) = false; decide +kernel) ?_⟩
      refine ⟨_, rfl, rfl, _, rfl, iteT' (by show decide (V.str (Str.ofString "store") = V.str _) = true; decide +kernel) ?_⟩
      refine ⟨_, rfl, ac, CW, dx, _, _, rfl, sD _ _ gw, T.c_World.cl, T.n_World_passes, lk_World_passes, _, rfl, t3, x3, (pk : Int), _, rfl, rfl, Same.tup sD j3, atI_nat hpb, pb, CP, pd, _, _, rfl, sD _ _ c1, T.c_Pass.cl, T.n_Pass_span, lk_Pass_span, ?_⟩
      refine ⟨ts, _, rfl, Same.tup sD c2, rfl, _, _, rfl, _, _, rfl, rfl, ?_⟩
      refine ⟨_, rfl, _, rfl, sz2_, fun v hv => ?_⟩
      have sv := sD.trans (same_new hv (.tup [.int st, .int y.fin]))
      refine ⟨_, rfl, D, _, 0, _, rfl, rfl, SqL.of (same_new hv _ _ _ upd_same), rfl, v, (st, y.fin), (m : Int), rfl, SqT.of upd_same, _, rfl, ?_⟩
      have e := q _ sv
      rw [show recPart W (.store s m) z st (pk : Int) = if inM m st (rwFin W (pk : Int)) = true then z.size else 0 from if_pos es, rwFin_of hy] at e
      refine ite2 (fun k2 => ?_) (fun k2 => ?_)
      · rw [if_pos k2] at e
        exact ⟨_, rfl, ob, CR, od, _, _, rfl, sv _ _ o1, T.c_Recording.cl, T.n_Recording_size, lk_Recording_size, e⟩
      · rw [if_neg k2] at e
        exact e
  | energy s m =>
    refine ⟨_, rfl, t, _, rfl, ht, (by show 2 ≤ 3; decide), (by show 3 ≤ 1000; decide), fun D hD => ⟨_, _, rfl, _, _, rfl, _, _, rfl, rfl, ?_⟩⟩
    have sD := same_new hD (.lst (minV [m]))
    refine ⟨_, rfl, ac, CW, dx, _, _, rfl, sD _ _ gw, T.c_World.cl, T.n_World_recordings, lk_World_recordings, _, rfl, t2, x2, (r : Int), _, rfl, rfl, Same.tup sD j2, atI_nat hob, ?_⟩
    refine ⟨_, rfl, u, _, rfl, Same.tup sD hu, rfl, _, _, rfl, _, _, rfl, rfl, ?_⟩
    refine ⟨_, rfl, rfl, _, rfl, iteF' (by show decide (V.str (Str.ofString "energy") = V.str _) = false; decide +kernel) ?_⟩
    refine ⟨_, rfl, rfl, _, rfl, iteF' (by show decide (V.str (Str.ofString "energy") = V.str _) = false; decide +kernel) ?_⟩
    refine ⟨_, rfl, ob, CR, od, _, _, rfl, sD _ _ o1, T.c_Recording.cl, T.n_Recording_satellite, lk_Recording_satellite, _, rfl, rfl, _, rfl, ite2 (fun k1 => ?_) (fun k1 => ?_)⟩
    · have e := q _ sD
      rw [show recPart W (.energy s m) z st (pk : Int) = 0 from if_neg (sneg k1)] at e
      exact e
    · have es := spos k1
      refine ⟨_, rfl, rfl, _, rfl, iteF' (by show decide (V.str (Str.ofString "energy") = V.str _) = false; decide +kernel) ?_⟩
      refine ⟨_, rfl, rfl, _, rfl, iteF' (by show decide (V.str (Str.ofString "energy") = V.str _) = false; decide +kernel) ?_⟩
      refine ⟨_, rfl, _, rfl, D, st, [m], rfl, SqL.of upd_same, .inl ⟨m, rfl, _, rfl, ?_⟩⟩
      have e := q _ sD
      rw [show recPart W (.energy s m) z st (pk : Int) = if st ≤ (m : Int) then z.energy else 0 from if_pos es] at e
      refine ite2 (fun k2 => ?_) (fun k2 => ?_)
      · rw [if_pos (of_decide_eq_true k2)] at e
        exact ⟨_, rfl, ob, CR, od, _, _, rfl, sD _ _ o1, T.c_Recording.cl, T.n_Recording_energy, lk_Recording_energy, e⟩
      · rw [if_neg (fun h => k2 (decide_eq_true h))] at e
        exact e
  | efrom s m0 m =>
    refine ⟨_, rfl, t, _, rfl, ht, (by show 2 ≤ 4; decide), (by show 4 ≤ 1000; decide), fun D hD => ⟨_, _, rfl, _, _, rfl, _, _, rfl, rfl, ?_⟩⟩
    have sD := same_new hD (.lst (minV [m0, m]))
    refine ⟨_, rfl, ac, CW, dx, _, _, rfl, sD _ _ gw, T.c_World.cl, T.n_World_recordings, lk_World_recordings, _, rfl, t2, x2, (r : Int), _, rfl, rfl, Same.tup sD j2, atI_nat hob, ?_⟩
    refine ⟨_, rfl, u, _, rfl, Same.tup sD hu, rfl, _, _, rfl, _, _, rfl, rfl, ?_⟩
    refine ⟨_, rfl, rfl, _, rfl, iteF' (by show decide (V.str (Str.ofString "energy from") = V.str _) = false; decide +kernel) ?_⟩
    refine ⟨_, rfl, rfl, _, rfl, iteF' (by show decide (V.str (Str.ofString "energy from") = V.str _) = false; decide +kernel) ?_⟩
    refine ⟨_, rfl, ob, CR, od, _, _, rfl, sD _ _ o1, T.c_Recording.cl, T.n_Recording_satellite, lk_Recording_satellite, _, rfl, rfl, _, rfl, ite2 (fun k1 => ?_) (fun k1 => ?_)⟩
    · have e := q _ sD
      rw [show recPart W (.efrom s m0 m) z st (pk : Int) = 0 from if_neg (sneg k1)] at e
      exact e
    · have es := spos k1
      refine ⟨_, rfl, rfl, _, rfl, iteF' (by show decide (V.str (Str.ofString "energy from") = V.str _) = false; decide +kernel) ?_⟩
      refine ⟨_, rfl, rfl, _, rfl, iteF' (by show decide (V.str (Str.ofString "energy from") = V.str _) = false; decide +kernel) ?_⟩
      refine ⟨_, rfl, _, rfl, D, st, [m0, m], rfl, SqL.of upd_same, .inr ⟨m0, m, rfl, _, rfl, ?_⟩⟩
      have e := q _ sD
      rw [show recPart W (.efrom s m0 m) z st (pk : Int) = if st ≤ (m : Int) ∧ (m0 : Int) < st then z.energy else 0 from if_pos es] at e
      refine ite2 (fun k2 => ?_) (fun k2 => ?_)
      · rw [if_pos (of_decide_eq_true k2)] at e
        exact ⟨_, rfl, ob, CR, od, _, _, rfl, sD _ _ o1, T.c_Recording.cl, T.n_Recording_energy, lk_Recording_energy, e⟩
      · rw [if_neg (fun h => k2 (decide_eq_true h))] at e
        exact e
def spPasPart (K : PySem.W.Frag) (CS CT CR CP CW : Addr) : Sp := fun vs H Q _ => ∃ (ac t : Addr) (W : WorldD) (row : RowD) (k : Nat) (z : PasD), vs = [.ref ac, .ref t, .int (k : Int)] ∧ WorldOk W ∧ WorldAt K CS CT CR CP CW H ac W ∧ SqT K H t (rowV row) ∧ RowOk W row ∧ W.pass[k]? = some z ∧ ∀ H', Same H H' → Q (.int (pasPart W row k z)) H'
set_option maxHeartbeats 8000000 in
theorem d_pass_part (T : TxtW K mg CL CS CT CR CP CW aS aR fS fT fR fP) (D_busy_part : DefOk P w K mg base CX0 2 "busy_part" ["world", "number", "span", "minute"] (spBusyP K CS CT CR CP CW)) (D_has_minute : DefOk P w K mg base CX0 1 "has_minute" ["span", "minute"] (spHasM K)) (D_lengthened : DefOk P w K mg base CX0 1 "lengthened" ["span", "minutes"] (spLength K)) (D_is_spent : DefOk P w K mg base CX0 1 "is_spent" ["first", "minutes"] (spSpent K))
    (A : At K mg "pass_part" s_pass_part ["world", "row", "p"]) : DefOk P w K mg base CX0 3 "pass_part" ["world", "row", "p"] (spPasPart K CS CT CR CP CW) := by
  have B := T.L.B
  refine A.ok sc_pass_part (fun vs H Q E h => ?_) (fun f cdv A outer s H vs Q E hr h => ?_)
  · obtain ⟨ac, t, W, row, k, z, rfl, _⟩ := h
    rfl
  obtain ⟨ac, t, W, row, k, z, rfl, wok, hW, ht, rok, hz, q⟩ := h
  refine ⟨_, pss_cons (ps_asg (pv 1) (pg_star (i := 2) (by rfl) (pgs_cons (pg_name (i := 3) sc_pass_part.nd rfl (Or.inl rfl)) (pgs_cons (pg_name (i := 4) sc_pass_part.nd rfl (Or.inl rfl)) (pgs_consS (pg_name (i := 5) sc_pass_part.nd rfl (Or.inl rfl)) (pgs_nil))))))
  (pss_cons (ps_set (i := 6) sc_pass_part.nd rfl (Or.inl rfl) (pe_ix ix_tup (pe_fld (pv 0) rfl) (pv 2) (fun _ _ => rfl)))
  (pss_cons (ps_if (pt_cmpR op_eq (pv 3) pe_str (nomark _))
      (pss_one (ps_ret (pe_ifExp (pt_cmpR op_eq (pv 2) (pv 4) (nomark _)) (pe_un un_neg (pe_fld (pv 6) rfl)) pe_int)))
      (pss_nil))
  (pss_cons (ps_if (pt_cmpR op_eq (pv 3) pe_str (nomark _))
      (pss_cons (ps_set (i := 7) sc_pass_part.nd rfl (Or.inl rfl) (pe_fld (pe_ix ix_tup (pe_fld (pv 0) rfl) (pe_fld (pv 6) rfl) (fun _ _ => rfl)) rfl))
      (pss_cons (ps_set (i := 8) sc_pass_part.nd rfl (Or.inl rfl) (pe_and (pe_cmpR op_eq (pe_fld (pv 6) rfl) (pv 4) (nomark _)) (pe_one (pe_f D_has_minute (hr.mono (by omega)) pass0 (pa_cons (pe_f D_lengthened (hr.mono (by omega)) pass0 (pa_cons (pe_fld (pv 6) rfl) (pa_cons (pv 7) pa_nil))) (pa_cons (pe_ix ix_list (pv 5) pe_int (fun _ _ => rfl)) pa_nil))))))
      (pss_one (ps_ret (pe_ifExp (pt_val (pv 8)) pe_int pe_int)))))
      (pss_nil))
  (pss_cons (ps_if (PW.pt (pw_or (pt_cmpR op_eq (pv 3) pe_str (nomark _)) (pw_or1 (pt_cmpR op_ne (pe_fld (pv 6) rfl) (pv 4) (nomark _)))))
      (pss_one (ps_ret pe_int))
      (pss_nil))
  (pss_cons (ps_if (pt_cmpR op_eq (pv 3) pe_str (nomark _))
      (pss_one (ps_ret (pe_f D_busy_part (hr.mono (by omega)) pass0 (pa_cons (pv 0) (pa_cons (pv 4) (pa_cons (pe_fld (pv 6) rfl) (pa_cons (pe_ix ix_list (pv 5) pe_int (fun _ _ => rfl)) pa_nil)))))))
      (pss_nil))
  (pss_one (ps_ret (pe_ifExp (pt_val (pe_f D_is_spent (hr.mono (by omega)) pass0 (pa_cons (pe_ix ix_tup (pe_fld (pv 6) rfl) pe_int (fun _ _ => rfl)) (pa_cons (pv 5) pa_nil)))) (pe_fld (pv 6) rfl) pe_int))))))))
    , ?_⟩
  obtain ⟨dx, t0, t1, t2, t3, x0, x1, x2, x3, gw, j0, q0, j1, q1, j2, q2, j3, q3⟩ := hW.ex
  obtain ⟨pb, pd, ts, hpb, c1, c2⟩ := rw_pas q3 hz
  have zok := wok.pass z (List.mem_of_getElem? hz)
  cases row with
  | room k2 =>
    refine ⟨_, rfl, t, _, rfl, ht, (by show 2 ≤ 2; decide), (by show 2 ≤ 1000; decide), fun D hD => ⟨_, _, rfl, _, _, rfl, _, _, rfl, rfl, ?_⟩⟩
    have sD := same_new hD (.lst (minV []))
    refine ⟨_, rfl, ac, CW, dx, _, _, rfl, sD _ _ gw, T.c_World.cl, T.n_World_passes, lk_World_passes, _, rfl, t3, x3, (k : Int), _, rfl, rfl, Same.tup sD j3, atI_nat hpb, ?_⟩
    refine ⟨_, rfl, rfl, _, rfl, iteT' (by show decide (V.str (Str.ofString "room") = V.str _) = true; decide +kernel) ?_⟩
    have e := q _ sD
    refine ⟨_, rfl, _, rfl, rfl, _, rfl, ite2 (fun k1 => ?_) (fun k1 => ?_)⟩
    · have h1 := V.int.inj (of_decide_eq_true k1)
      rw [show pasPart W (.room k2) k z = -z.room from if_pos (by have : (k : Int) = (k2 : Int) := h1; omega)] at e
      exact ⟨_, rfl, pb, CP, pd, _, _, rfl, sD _ _ c1, T.c_Pass.cl, T.n_Pass_room, lk_Pass_room, _, rfl, e⟩
    · have h1 : ¬ k = k2 := fun h => k1 (decide_eq_true (by rw [h]; rfl))
      rw [show pasPart W (.room k2) k z = 0 from if_neg h1] at e
      exact e
  | sta s m =>
    refine ⟨_, rfl, t, _, rfl, ht, (by show 2 ≤ 3; decide), (by show 3 ≤ 1000; decide), fun D hD => ⟨_, _, rfl, _, _, rfl, _, _, rfl, rfl, ?_⟩⟩
    have sD := same_new hD (.lst (minV [m]))
    obtain ⟨zt, hzt⟩ : ∃ zt, W.stas[z.sta]? = some zt := ⟨_, List.getElem?_eq_getElem zok.sta⟩
    obtain ⟨sb, sd, hsb, g1⟩ := rw_sta q1 hzt
    refine ⟨_, rfl, ac, CW, dx, _, _, rfl, sD _ _ gw, T.c_World.cl, T.n_World_passes, lk_World_passes, _, rfl, t3, x3, (k : Int), _, rfl, rfl, Same.tup sD j3, atI_nat hpb, ?_⟩
    refine ⟨_, rfl, rfl, _, rfl, iteF' (by show decide (V.str (Str.ofString "station") = V.str _) = false; decide +kernel) ?_⟩
    refine ⟨_, rfl, rfl, _, rfl, iteT' (by show decide (V.str (Str.ofString "station") = V.str _) = true; decide +kernel) ?_⟩
    refine ⟨_, rfl, ac, CW, dx, _, _, rfl, sD _ _ gw, T.c_World.cl, T.n_World_stations, lk_World_stations, _, rfl, pb, CP, pd, _, _, rfl, sD _ _ c1, T.c_Pass.cl, T.n_Pass_station, lk_Pass_station, t1, x1, (z.sta : Int), _, rfl, rfl, Same.tup sD j1, atI_nat hsb, sb, CT, sd, _, _, rfl, sD _ _ g1, T.c_Station.cl, T.n_Station_turn, lk_Station_turn, ?_⟩
    have ee := fun (H' : Hp) (s' : Same H H') => q H' s'
    refine ⟨_, rfl, pb, CP, pd, _, _, rfl, sD _ _ c1, T.c_Pass.cl, T.n_Pass_station, lk_Pass_station, _, rfl, rfl, _, rfl, ite2 (fun k1 => ?_) (fun k1 => ?_)⟩
    · have es : z.sta = s := by
        have := V.int.inj (of_decide_eq_true k1)
        have : (z.sta : Int) = (s : Int) := this
        omega
      subst es
      refine ⟨_, rfl, pb, CP, pd, _, _, rfl, sD _ _ c1, T.c_Pass.cl, T.n_Pass_span, lk_Pass_span, _, rfl, ts, (z.first, z.fin), zt.turn, rfl, Same.tup sD c2, fun t1 H1 s1 h1 => ?_⟩
      refine ⟨_, rfl, D, _, 0, _, rfl, rfl, SqL.of (s1 _ _ upd_same), rfl, t1, (z.first, z.fin + zt.turn), (m : Int), rfl, h1, _, rfl, _, rfl, ?_⟩
      have e := q _ (sD.trans s1)
      rw [show pasPart W (.sta z.sta m) k z = if inM m z.first (z.fin + rwTurn W z.sta) = true then 1 else 0 from if_pos rfl, rwTurn_of hzt] at e
      refine ite2 (fun k2 => ?_) (fun k2 => ?_)
      · rw [if_pos k2] at e
        exact e
      · rw [if_neg k2] at e
        exact e
    · have es : ¬ z.sta = s := fun h => k1 (decide_eq_true (by rw [h]; rfl))
      have e := q _ sD
      rw [show pasPart W (.sta s m) k z = 0 from if_neg es] at e
      exact ⟨_, rfl, _, rfl, iteF' rfl e⟩
  | sat s m =>
    refine ⟨_, rfl, t, _, rfl, ht, (by show 2 ≤ 3; decide), (by show 3 ≤ 1000; decide), fun D hD => ⟨_, _, rfl, _, _, rfl, _, _, rfl, rfl, ?_⟩⟩
    have sD := same_new hD (.lst (minV [m]))
    refine ⟨_, rfl, ac, CW, dx, _, _, rfl, sD _ _ gw, T.c_World.cl, T.n_World_passes, lk_World_passes, _, rfl, t3, x3, (k : Int), _, rfl, rfl, Same.tup sD j3, atI_nat hpb, ?_⟩
    refine ⟨_, rfl, rfl, _, rfl, iteF' (by show decide (V.str (Str.ofString "satellite") = V.str _) = false; decide +kernel) ?_⟩
    refine ⟨_, rfl, rfl, _, rfl, iteF' (by show decide (V.str (Str.ofString "satellite") = V.str _) = false; decide +kernel) ?_⟩
    refine ⟨_, rfl, rfl, _, rfl, iteF' (by show decide (V.str (Str.ofString "satellite") = V.str _) = false; decide +kernel) ?_⟩
    refine ⟨_, rfl, pb, CP, pd, _, _, rfl, sD _ _ c1, T.c_Pass.cl, T.n_Pass_satellite, lk_Pass_satellite, _, rfl, rfl, _, rfl, ite2 (fun k1 => ?_) (fun k1 => ?_)⟩
    · have e := q _ sD
      rw [show pasPart W (.sat s m) k z = 0 from if_neg (sneg k1)] at e
      exact e
    · have es := spos k1
      obtain ⟨zs, hzs⟩ : ∃ zs, W.sats[s]? = some zs := ⟨_, List.getElem?_eq_getElem rok.num⟩
      refine ⟨_, rfl, rfl, _, rfl, iteT' (by show decide (V.str (Str.ofString "satellite") = V.str _) = true; decide +kernel) ?_⟩
      refine ⟨_, rfl, _, rfl, _, rfl, pb, CP, pd, _, _, rfl, sD _ _ c1, T.c_Pass.cl, T.n_Pass_span, lk_Pass_span, _, rfl, D, _, 0, _, rfl, rfl, SqL.of upd_same, rfl, ac, ts, W, s, zs, (z.first, z.fin), (m : Int), rfl, hW.same sD, hzs, Same.tup sD c2, fun H2 s2 => ?_⟩
      have e := q _ (sD.trans s2)
      rw [show pasPart W (.sat s m) k z = if inM m z.first (z.fin + rwSet W s) = true then 1 else 0 from if_pos es, rwSet_of hzs] at e
      exact e
  | store s m =>
    refine ⟨_, rfl, t, _, rfl, ht, (by show 2 ≤ 3; decide), (by show 3 ≤ 1000; decide), fun D hD => ⟨_, _, rfl, _, _, rfl, _, _, rfl, rfl, ?_⟩⟩
    have sD := same_new hD (.lst (minV [m]))
    refine ⟨_, rfl, ac, CW, dx, _, _, rfl, sD _ _ gw, T.c_World.cl, T.n_World_passes, lk_World_passes, _, rfl, t3, x3, (k : Int), _, rfl, rfl, Same.tup sD j3, atI_nat hpb, ?_⟩
    refine ⟨_, rfl, rfl, _, rfl, iteF' (by show decide (V.str (Str.ofString "store") = V.str _) = false; decide +kernel) ?_⟩
    refine ⟨_, rfl, rfl, _, rfl, iteF' (by show decide (V.str (Str.ofString "store") = V.str _) = false; decide +kernel) ?_⟩
    exact ⟨_, rfl, rfl, _, rfl, iteT' (by show decide (V.str (Str.ofString "store") = V.str _) = true; decide +kernel) (iteT' rfl (q _ sD))⟩
  | energy s m =>
    refine ⟨_, rfl, t, _, rfl, ht, (by show 2 ≤ 3; decide), (by show 3 ≤ 1000; decide), fun D hD => ⟨_, _, rfl, _, _, rfl, _, _, rfl, rfl, ?_⟩⟩
    have sD := same_new hD (.lst (minV [m]))
    refine ⟨_, rfl, ac, CW, dx, _, _, rfl, sD _ _ gw, T.c_World.cl, T.n_World_passes, lk_World_passes, _, rfl, t3, x3, (k : Int), _, rfl, rfl, Same.tup sD j3, atI_nat hpb, ?_⟩
    refine ⟨_, rfl, rfl, _, rfl, iteF' (by show decide (V.str (Str.ofString "energy") = V.str _) = false; decide +kernel) ?_⟩
    refine ⟨_, rfl, rfl, _, rfl, iteF' (by show decide (V.str (Str.ofString "energy") = V.str _) = false; decide +kernel) ?_⟩
    refine ⟨_, rfl, rfl, _, rfl, iteF' (by show decide (V.str (Str.ofString "energy") = V.str _) = false; decide +kernel) ?_⟩
    refine ⟨_, rfl, pb, CP, pd, _, _, rfl, sD _ _ c1, T.c_Pass.cl, T.n_Pass_satellite, lk_Pass_satellite, _, rfl, rfl, _, rfl, ite2 (fun k1 => ?_) (fun k1 => ?_)⟩
    · have e := q _ sD
      rw [show pasPart W (.energy s m) k z = 0 from if_neg (sneg k1)] at e
      exact e
    · have es := spos k1
      refine ⟨_, rfl, rfl, _, rfl, iteF' (by show decide (V.str (Str.ofString "energy") = V.str _) = false; decide +kernel) ?_⟩
      refine ⟨_, rfl, pb, CP, pd, _, _, rfl, sD _ _ c1, T.c_Pass.cl, T.n_Pass_span, lk_Pass_span, ts, _, 0, _, rfl, rfl, Same.tup sD c2, rfl, _, rfl, D, z.first, [m], rfl, SqL.of upd_same, .inl ⟨m, rfl, _, rfl, ?_⟩⟩
      have e := q _ sD
      rw [show pasPart W (.energy s m) k z = if z.first ≤ (m : Int) then z.energy else 0 from if_pos es] at e
      refine ite2 (fun k2 => ?_) (fun k2 => ?_)
      · rw [if_pos (of_decide_eq_true k2)] at e
        exact ⟨_, rfl, pb, CP, pd, _, _, rfl, sD _ _ c1, T.c_Pass.cl, T.n_Pass_energy, lk_Pass_energy, e⟩
      · rw [if_neg (fun h => k2 (decide_eq_true h))] at e
        exact e
  | efrom s m0 m =>
    refine ⟨_, rfl, t, _, rfl, ht, (by show 2 ≤ 4; decide), (by show 4 ≤ 1000; decide), fun D hD => ⟨_, _, rfl, _, _, rfl, _, _, rfl, rfl, ?_⟩⟩
    have sD := same_new hD (.lst (minV [m0, m]))
    refine ⟨_, rfl, ac, CW, dx, _, _, rfl, sD _ _ gw, T.c_World.cl, T.n_World_passes, lk_World_passes, _, rfl, t3, x3, (k : Int), _, rfl, rfl, Same.tup sD j3, atI_nat hpb, ?_⟩
    refine ⟨_, rfl, rfl, _, rfl, iteF' (by show decide (V.str (Str.ofString "energy from") = V.str _) = false; decide +kernel) ?_⟩
    refine ⟨_, rfl, rfl, _, rfl, iteF' (by show decide (V.str (Str.ofString "energy from") = V.str _) = false; decide +kernel) ?_⟩
    refine ⟨_, rfl, rfl, _, rfl, iteF' (by show decide (V.str (Str.ofString "energy from") = V.str _) = false; decide +kernel) ?_⟩
    refine ⟨_, rfl, pb, CP, pd, _, _, rfl, sD _ _ c1, T.c_Pass.cl, T.n_Pass_satellite, lk_Pass_satellite, _, rfl, rfl, _, rfl, ite2 (fun k1 => ?_) (fun k1 => ?_)⟩
    · have e := q _ sD
      rw [show pasPart W (.efrom s m0 m) k z = 0 from if_neg (sneg k1)] at e
      exact e
    · have es := spos k1
      refine ⟨_, rfl, rfl, _, rfl, iteF' (by show decide (V.str (Str.ofString "energy from") = V.str _) = false; decide +kernel) ?_⟩
      refine ⟨_, rfl, pb, CP, pd, _, _, rfl, sD _ _ c1, T.c_Pass.cl, T.n_Pass_span, lk_Pass_span, ts, _, 0, _, rfl, rfl, Same.tup sD c2, rfl, _, rfl, D, z.first, [m0, m], rfl, SqL.of upd_same, .inr ⟨m0, m, rfl, _, rfl, ?_⟩⟩
      have e := q _ sD
      rw [show pasPart W (.efrom s m0 m) k z = if z.first ≤ (m : Int) ∧ (m0 : Int) < z.first then z.energy else 0 from if_pos es] at e
      refine ite2 (fun k2 => ?_) (fun k2 => ?_)
      · rw [if_pos (of_decide_eq_true k2)] at e
        exact ⟨_, rfl, pb, CP, pd, _, _, rfl, sD _ _ c1, T.c_Pass.cl, T.n_Pass_energy, lk_Pass_energy, e⟩
      · rw [if_neg (fun h => k2 (decide_eq_true h))] at e
        exact e
end
end DP
namespace DP
open PySem PySem.Spec PyProof.Rows L2
structure TxtO (mg : Str → Option Value) : Prop where
  g_OPEN : ∃ t, mg "OPEN" = some (.str "open" t)
/-- a list of data that grows -/
def DL {α : Type} (K : PySem.W.Frag) (f : α → PyData) (H : Hp) (D : Addr) (l : List α) : Prop := ∃ xs, H D = some (.lst xs) ∧ DpAll K H xs (l.map f)
section
variable {α : Type} {K : PySem.W.Frag} {f : α → PyData} {H H' : Hp} {D : Addr} {l : List α} {a : α} {v : V}
theorem DL.same (h : DL K f H D l) (s : Same H H') : DL K f H' D l := by
  obtain ⟨xs, h1, h2⟩ := h
  exact ⟨xs, s _ _ h1, dpAll_same s h2⟩
theorem DL.nil : DL K f (upd H D (.lst [])) D ([] : List α) := ⟨[], upd_same, .nil⟩
/-- what append asks, and what is left -/
theorem DL.push (nf : ∀ a, noL (f a)) (h : DL K f H D l) (hv : Dp K H v (f a)) (hl : l.length < 1000) : ∃ xs, H D = some (.lst xs) ∧ xs.length < sizeLine ∧ DL K f (upd H D (.lst (xs ++ [v]))) D (l ++ [a]) := by
  obtain ⟨xs, h1, h2⟩ := h
  have := dpAll_len h2
  rw [List.length_map] at this
  refine ⟨xs, h1, small1000 (by omega), xs ++ [v], upd_same, ?_⟩
  rw [List.map_append]
  exact dpAll_snoc (dpTs_up (noLs_map nf l) h1 h2) (dpT_up (nf a) h1 hv)
end
end DP
namespace DP
open PySem PySem.Spec PyProof.Rows L2
abbrev s_is_filled : Stmt := topS 47
theorem sc_is_filled : FnScope ["entry"] ["entry"] (defScope s_is_filled) := ⟨rfl, rfl, rfl, by decide +kernel, rfl, by decide +kernel, by decide +kernel⟩
def filB : PyData → Bool
  | .none => false
  | d => !PyData.eqv d (.str "open")
section
variable {P : Program} {w : World} {K : PySem.W.Frag} {mg : Str → Option Value} {base : Heap}
def spFilled (K : PySem.W.Frag) : Sp := fun vs H Q _ => ∃ (v : V) (d : PyData), vs = [v] ∧ Dp K H v d ∧ SeqAt.shaped d = true ∧ Q (.bl (filB d)) H
theorem d_is_filled (B : Bt mg) (T : TxtO mg) (A : At K mg "is_filled" s_is_filled ["entry"]) : DefOk P w K mg base CX0 1 "is_filled" ["entry"] (spFilled K) := by
  refine A.ok sc_is_filled (fun vs H Q E h => ?_) (fun f cdv A outer s H vs Q E hr h => ?_)
  · obtain ⟨v, d, rfl, _⟩ := h
    rfl
  obtain ⟨v, d, rfl, hd, sd, q⟩ := h
  refine ⟨_, pss_one (ps_ret (pe_and (pe_cmpR op_notN (pv 0) pe_non (nomark _)) (pe_one (pe_cmpR (op_neD (hu64 hr)) (pv 0) (pe_gs T.g_OPEN) (nomark _)))))
    , ?_⟩
  refine ⟨_, rfl, rfl, _, rfl, ?_⟩
  have hd0 := hd
  cases hd with
  | non => exact iteF' rfl q
  | bl b => exact iteT' rfl ⟨_, rfl, _, _, hd0, .str _, sd, by decide +kernel, q⟩
  | int i => exact iteT' rfl ⟨_, rfl, _, _, hd0, .str _, sd, by decide +kernel, q⟩
  | str x => exact iteT' rfl ⟨_, rfl, _, _, hd0, .str _, sd, by decide +kernel, q⟩
  | lst h1 h2 => exact iteT' rfl ⟨_, rfl, _, _, hd0, .str _, sd, by decide +kernel, q⟩
  | tup h1 h2 => exact iteT' rfl ⟨_, rfl, _, _, hd0, .str _, sd, by decide +kernel, q⟩
end
end DP
namespace DP
open PySem PySem.Spec PyProof.Rows L2
abbrev s_left_side : Stmt := topS 55
theorem sc_left_side : FnScope ["world", "row", "plan", "made", "taken", "parts", "r", "entry", "p"] ["world", "row", "plan"] (defScope s_left_side) := ⟨rfl, rfl, rfl, by decide +kernel, rfl, by decide +kernel, by decide +kernel⟩
def leftRecAt (W : WorldD) (row : RowD) (c : CaseD) (k : Nat) : List Int := match W.recs[k]?, c.made[k]? with
  | some z, some (.at_ s p) => [recPart W row z s p]
  | _, _ => []
def leftPasAt (W : WorldD) (row : RowD) (c : CaseD) (k : Nat) : List Int := match W.pass[k]?, c.taken[k]? with
  | some z, some (.ant _) => [pasPart W row k z]
  | _, _ => []
def leftL (W : WorldD) (row : RowD) (c : CaseD) : List Int := (List.range W.recs.length).flatMap (leftRecAt W row c) ++ (List.range W.pass.length).flatMap (leftPasAt W row c)
def leftW (W : WorldD) (row : RowD) (c : CaseD) : Int := (leftL W row c).sum
theorem rgf_succ {β : Type} (g : Nat → List β) (n : Nat) : (List.range (n + 1)).flatMap g = (List.range n).flatMap g ++ g n := by
  rw [List.range_succ, List.flatMap_append, List.flatMap_cons, List.flatMap_nil, List.append_nil]
theorem rgf_len {β : Type} {g : Nat → List β} (h : ∀ i, (g i).length ≤ 1) : ∀ n, ((List.range n).flatMap g).length ≤ n
  | 0 => Nat.le_refl _
  | n + 1 => by
    rw [rgf_succ, List.length_append]
    have := rgf_len h n
    have := h n
    omega
theorem leftRec_len (W : WorldD) (row : RowD) (c : CaseD) (k : Nat) : (leftRecAt W row c k).length ≤ 1 := by
  unfold leftRecAt
  split <;> simp
theorem leftPas_len (W : WorldD) (row : RowD) (c : CaseD) (k : Nat) : (leftPasAt W row c k).length ≤ 1 := by
  unfold leftPasAt
  split <;> simp
theorem filE_M (e : EntM) : filB (entM e) = match e with | .at_ _ _ => true | _ => false := by cases e <;> first | rfl | decide +kernel
theorem filE_T (e : EntT) : filB (entT e) = match e with | .ant _ => true | _ => false := by cases e <;> first | rfl | decide +kernel
theorem shE_M (a : EntM) : SeqAt.shaped (entM a) = true := by cases a <;> first | rfl | decide +kernel
theorem shE_T (a : EntT) : SeqAt.shaped (entT a) = true := by cases a <;> first | rfl | decide +kernel
section
variable {P : Program} {w : World} {K : PySem.W.Frag} {mg : Str → Option Value} {base : Heap} {CL CS CT CR CP CW aS aR fS fT fR fP : Addr}
def spLeft (K : PySem.W.Frag) (CS CT CR CP CW : Addr) : Sp := fun vs H Q _ => ∃ (ac t : Addr) (v : V) (W : WorldD) (r : RowD) (o : Bool) (c : CaseD), vs = [.ref ac, .ref t, v] ∧ WorldOk W ∧ WorldAt K CS CT CR CP CW H ac W ∧ SqT K H t (rowV r) ∧ RowOk W r ∧ CaseG W o c ∧ Dp K H v (casePy c) ∧ ∀ H', Same H H' → Q (.int (leftW W r c)) H'
set_option maxHeartbeats 8000000 in
theorem d_left_side (T : TxtW K mg CL CS CT CR CP CW aS aR fS fT fR fP) (D_is_filled : DefOk P w K mg base CX0 1 "is_filled" ["entry"] (spFilled K)) (D_recording_part : DefOk P w K mg base CX0 3 "recording_part" ["world", "row", "r", "option"] (spRecPart K CS CT CR CP CW)) (D_pass_part : DefOk P w K mg base CX0 3 "pass_part" ["world", "row", "p"] (spPasPart K CS CT CR CP CW))
    (A : At K mg "left_side" s_left_side ["world", "row", "plan"]) : DefOk P w K mg base CX0 4 "left_side" ["world", "row", "plan"] (spLeft K CS CT CR CP CW) := by
  have B := T.L.B
  refine A.ok sc_left_side (fun vs H Q E h => ?_) (fun f cdv A outer s H vs Q E hr h => ?_)
  · obtain ⟨ac, t, v, W, r, o, c, rfl, _⟩ := h
    rfl
  obtain ⟨ac, t, v, W, r, o, c, rfl, wok, hW, ht, rok, cg, hc, q⟩ := h
  obtain ⟨tc, tm, tt, xm, xt, ev, htc, hm, htt, hxm, hxt, lm, lt⟩ := case_two hc
  subst ev
  have nM := cg.nM
  have nT := cg.nT
  have nR := wok.nRecs
  have nP := wok.nPass
  refine ⟨_, pss_cons (ps_asg (pv 2) (pg_tup (by rfl) (pgs_cons (pg_name (i := 3) sc_left_side.nd rfl (Or.inl rfl)) (pgs_cons (pg_name (i := 4) sc_left_side.nd rfl (Or.inl rfl)) (pgs_nil)))))
  (pss_cons (ps_setLc (own := [("r", 6), ("entry", 7)]) (i := 5) rfl sc_left_side.nd rfl rfl (sw_true rfl rfl rfl (by decide +kernel)) (pi_enumT (by rfl) B.enumerate (pa_cons (pv 3) pa_nil)) (blkOk_by (own := [("r", 6), ("entry", 7)]) (N := ["world", "row", "plan", "made", "taken", "parts", "r", "entry", "p"]) (sc := defScope s_left_side) (by decide +kernel)) (fun _ _ _ _ _ => pg_tupK (K := K) (n := 2) rfl (by rfl) (pgs_cons (pg_name (i := 6) sc_left_side.nd rfl (Or.inl rfl)) (pgs_cons (pg_name (i := 7) sc_left_side.nd rfl (Or.inl rfl)) (pgs_nil)))) (fun _ _ _ _ _ => pts_one (pt_val (pe_f D_is_filled (hr.mono (by omega)) pass0 (pa_cons (pv 7) pa_nil)))) (fun _ _ _ _ _ => (pe_f D_recording_part (hr.mono (by omega)) pass0 (pa_cons (pv 0) (pa_cons (pv 1) (pa_cons (pv 6) (pa_cons (pv 7) pa_nil)))))))
  (pss_cons (ps_expr (pe_bm PySem.F.plainAttrs_list PySem.F.slot_list_extend PySem.F.type_list_extend mt_extend (pv 5) (pa_cons (pe_lc (own := [("p", 8), ("entry", 7)])  rfl sc_left_side.nd (pi_enumT (by rfl) B.enumerate (pa_cons (pv 4) pa_nil)) (blkOk_by (own := [("p", 8), ("entry", 7)]) (N := ["world", "row", "plan", "made", "taken", "parts", "r", "entry", "p"]) (sc := defScope s_left_side) (by decide +kernel)) (fun _ _ _ _ _ => pg_tupK (K := K) (n := 2) rfl (by rfl) (pgs_cons (pg_name (i := 8) sc_left_side.nd rfl (Or.inl rfl)) (pgs_cons (pg_name (i := 7) sc_left_side.nd rfl (Or.inl rfl)) (pgs_nil)))) (fun _ _ _ _ _ => pts_one (pt_val (pe_f D_is_filled (hr.mono (by omega)) pass0 (pa_cons (pv 7) pa_nil)))) (fun _ _ _ _ _ => (pe_f D_pass_part (hr.mono (by omega)) pass0 (pa_cons (pv 0) (pa_cons (pv 1) (pa_cons (pv 8) pa_nil)))))) pa_nil)))
  (pss_one (ps_ret (pe_callB (cr_sum rfl) (by rfl) B.sum (by decide +kernel) (pa_cons (pv 5) pa_nil))))))
    , ?_⟩
  refine ⟨_, rfl, tc, _, rfl, htc, rfl, _, _, rfl, _, _, rfl, rfl, ?_⟩
  refine ⟨_, rfl, tm, _, rfl, hm, fun D hD => lc_it (walk_enumT (K := K) (a := tm) (k := 0) (xs := xm)) (fun i H' => Same H H' ∧ H' D = some (.lst (((List.range i).flatMap (leftRecAt W r c)).map V.int))) ⟨same_new hD _, upd_same⟩ (fun i H' _ hI => Same.tup hI.1 hm) (fun i x H3 H4 hi hI hy => ?_) (fun H3 hI => ?_)⟩
  · obtain ⟨hs, hd⟩ := hI
    obtain ⟨tp, v1, rfl, htp, rfl, hv⟩ := hy
    obtain ⟨e, he, dv⟩ := dpAll_get hxm hv
    obtain ⟨z, hz⟩ : ∃ z, W.recs[i]? = some z := ⟨_, List.getElem?_eq_getElem (by omega)⟩
    have sT := same_new htp (.tup [.int (0 + (i : Nat)), v1])
    have sA := hs.trans sT
    have fl := rgf_len (leftRec_len W r c) i
    have dA := dp_same sA dv
    refine ⟨tp, _, rfl, SqT.of upd_same, rfl, _, _, rfl, _, _, rfl, rfl, rfl, _, rfl, v1, entM e, rfl, dA, shE_M e, _, rfl, ?_⟩
    generalize (upd H3 tp (.tup [.int (0 + (i : Nat)), v1])) = H5 at sT sA dA
    have hdA := sT _ _ hd
    have stop : leftRecAt W r c i = [] → Same H H5 ∧ H5 D = some (.lst (((List.range (i + 1)).flatMap (leftRecAt W r c)).map V.int)) := fun e0 => by
      rw [rgf_succ, e0, List.append_nil]
      exact ⟨sA, hdA⟩
    cases e with
    | non => exact iteF' rfl (stop (by unfold leftRecAt; rw [hz, he]))
    | opn => exact iteF' (by rw [filE_M]) (stop (by unfold leftRecAt; rw [hz, he]))
    | at_ st p =>
      obtain ⟨u, xs, rfl, hu, hx⟩ := dp_tup dA
      have ex := dp_ints (ns := [st, p]) hx
      subst ex
      obtain ⟨_, _, p0, p1⟩ := cg.mOk _ (List.mem_of_getElem? he)
      refine iteT' rfl ?_
      refine ⟨_, rfl, _, rfl, _, rfl, _, rfl, ac, t, u, W, r, i, z, st, p, by rw [Int.zero_add]; rfl, hW.same sA, Same.tup sA ht, rok, hz, hu, p0, p1, fun H6 s6 => ?_⟩
      refine ⟨_, s6 _ _ hdA, by rw [List.length_map]; exact small1000 (by omega), same_at hD (sA.trans s6) _, ?_⟩
      rw [upd_same, rgf_succ, show leftRecAt W r c i = [recPart W r z st p] from by unfold leftRecAt; rw [hz, he], List.map_append]
      rfl
  obtain ⟨s3, hD3⟩ := hI
  rw [show xm.length = W.recs.length by omega] at hD3
  have sL := rgf_len (leftRec_len W r c) W.recs.length
  refine ⟨_, rfl, .inl ⟨rfl, _, SqL.of hD3⟩, ?_⟩
  have htt3 := Same.tup s3 htt
  refine ⟨_, rfl, tt, _, rfl, htt3, fun F hF => lc_it (walk_enumT (K := K) (a := tt) (k := 0) (xs := xt)) (fun i H' => Same H3 H' ∧ H' F = some (.lst (((List.range i).flatMap (leftPasAt W r c)).map V.int))) ⟨same_new hF _, upd_same⟩ (fun i H' _ hI => Same.tup hI.1 htt3) (fun i x H4 H5 hi hI hy => ?_) (fun H4 hI => ?_)⟩
  · obtain ⟨hs, hd⟩ := hI
    obtain ⟨tp, v1, rfl, htp, rfl, hv⟩ := hy
    obtain ⟨e, he, dv⟩ := dpAll_get hxt hv
    obtain ⟨z, hz⟩ : ∃ z, W.pass[i]? = some z := ⟨_, List.getElem?_eq_getElem (by omega)⟩
    have sT := same_new htp (.tup [.int (0 + (i : Nat)), v1])
    have sA := hs.trans sT
    have fl := rgf_len (leftPas_len W r c) i
    have dA := dp_same (s3.trans sA) dv
    refine ⟨tp, _, rfl, SqT.of upd_same, rfl, _, _, rfl, _, _, rfl, rfl, rfl, _, rfl, v1, entT e, rfl, dA, shE_T e, _, rfl, ?_⟩
    generalize (upd H4 tp (.tup [.int (0 + (i : Nat)), v1])) = H6 at sT sA dA
    have hdA := sT _ _ hd
    have stop : leftPasAt W r c i = [] → Same H3 H6 ∧ H6 F = some (.lst (((List.range (i + 1)).flatMap (leftPasAt W r c)).map V.int)) := fun e0 => by
      rw [rgf_succ, e0, List.append_nil]
      exact ⟨sA, hdA⟩
    cases e with
    | non => exact iteF' rfl (stop (by unfold leftPasAt; rw [hz, he]))
    | opn => exact iteF' (by rw [filE_T]) (stop (by unfold leftPasAt; rw [hz, he]))
    | ant n =>
      refine iteT' rfl ?_
      refine ⟨_, rfl, _, rfl, _, rfl, ac, t, W, r, i, z, by rw [Int.zero_add]; rfl, wok, hW.same (s3.trans sA), Same.tup (s3.trans sA) ht, rok, hz, fun H7 s7 => ?_⟩
      refine ⟨_, s7 _ _ hdA, by rw [List.length_map]; exact small1000 (by omega), same_at hF (sA.trans s7) _, ?_⟩
      rw [upd_same, rgf_succ, show leftPasAt W r c i = [pasPart W r i z] from by unfold leftPasAt; rw [hz, he], List.map_append]
      rfl
  obtain ⟨s4, hF4⟩ := hI
  rw [show xt.length = W.pass.length by omega] at hF4
  have sP := rgf_len (leftPas_len W r c) W.pass.length
  have hD4 := s4 _ _ hD3
  refine ⟨D, F, _, _, rfl, rfl, hD4, hF4, small (by rw [List.length_map, List.length_map]; omega), ?_⟩
  have e := q _ (same_at hD (s3.trans s4) (.lst ((((List.range W.recs.length).flatMap (leftRecAt W r c)).map V.int) ++ (((List.range W.pass.length).flatMap (leftPasAt W r c)).map V.int))))
  refine ⟨_, rfl, D, leftL W r c, rfl, SqL.of ?_, e⟩
  rw [upd_same]
  unfold leftL
  rw [List.map_append]
end
end DP
namespace DP
open PySem PySem.Spec PyProof.Rows L2
abbrev s__law_row : Stmt := topS 71
theorem sc__law_row : FnScope ["world", "cell", "n", "kind", "s", "m", "first"] ["world", "cell"] (defScope s__law_row) := ⟨rfl, rfl, rfl, by decide +kernel, rfl, by decide +kernel, by decide +kernel⟩
theorem four_ {ds : List Int} (h : ds.length = 4) : ∃ d0 d1 d2 d3, ds = [d0, d1, d2, d3] := match ds, h with | [_, _, _, _], _ => ⟨_, _, _, _, rfl⟩
section
variable {P : Program} {w : World} {K : PySem.W.Frag} {mg : Str → Option Value} {base : Heap} {CL CS CT CR CP CW aS aR fS fT fR fP aM : Addr}
def spLawRow (K : PySem.W.Frag) (CS CT CR CP CW : Addr) : Sp := fun vs H Q _ => ∃ (ac : Addr) (W : WorldD) (x : Int), vs = [.ref ac, .int x] ∧ CG W ∧ WorldAt K CS CT CR CP CW H ac W ∧ ∀ (t : Addr) (r : RowD) (H' : Hp), Same H H' → RowOk W r → SqT K H' t (rowV r) → Q (.ref t) H'
set_option maxHeartbeats 8000000 in
theorem d_law_row (T : TxtW K mg CL CS CT CR CP CW aS aR fS fT fR fP) (D_law_draws : DefOk P w K mg base CX0 1 "_law_draws" ["cell", "count"] spDrawsC) (A : At K mg "_law_row" s__law_row ["world", "cell"]) : DefOk P w K mg base CX0 2 "_law_row" ["world", "cell"] (spLawRow K CS CT CR CP CW) := by
  have B := T.L.B
  refine A.ok sc__law_row (fun vs H Q E h => ?_) (fun f cdv A outer s H vs Q E hr h => ?_)
  · obtain ⟨ac, W, x, rfl, _⟩ := h
    rfl
  obtain ⟨ac, W, x, rfl, wg, hW, q⟩ := h
  refine ⟨_, pss_cons (ps_set (i := 2) sc__law_row.nd rfl (Or.inl rfl) (pe_f D_law_draws (hr.mono (by omega)) pass0 (pa_cons (pv 1) (pa_cons pe_int pa_nil))))
  (pss_cons (ps_set (i := 3) sc__law_row.nd rfl (Or.inl rfl) (pe_ix ix_tup (pe_tup (pa_cons pe_str (pa_cons pe_str (pa_cons pe_str (pa_cons pe_str (pa_cons pe_str (pa_cons pe_str pa_nil))))))) (pe_op op_mod (pe_ix ix_list (pv 2) pe_int (fun _ _ => rfl)) pe_int) (fun _ _ => rfl)))
  (pss_cons (ps_if (pt_cmpR op_eq (pv 3) pe_str (nomark _))
      (pss_one (ps_ret (pe_tup (pa_cons (pv 3) (pa_cons (pe_op op_mod (pe_ix ix_list (pv 2) pe_int (fun _ _ => rfl)) (pe_callB (call_len_seq) (by rfl) B.len (by decide +kernel) (pa_cons (pe_fld (pv 0) rfl) pa_nil))) pa_nil)))))
      (pss_nil))
  (pss_cons (ps_if (pt_cmpR op_eq (pv 3) pe_str (nomark _))
      (pss_one (ps_ret (pe_tup (pa_cons (pv 3) (pa_cons (pe_op op_mod (pe_ix ix_list (pv 2) pe_int (fun _ _ => rfl)) (pe_callB (call_len_seq) (by rfl) B.len (by decide +kernel) (pa_cons (pe_fld (pv 0) rfl) pa_nil))) (pa_cons (pe_op op_mod (pe_ix ix_list (pv 2) pe_int (fun _ _ => rfl)) (pe_fld (pv 0) rfl)) pa_nil))))))
      (pss_nil))
  (pss_cons (ps_set (i := 4) sc__law_row.nd rfl (Or.inl rfl) (pe_op op_mod (pe_ix ix_list (pv 2) pe_int (fun _ _ => rfl)) (pe_callB (call_len_seq) (by rfl) B.len (by decide +kernel) (pa_cons (pe_fld (pv 0) rfl) pa_nil))))
  (pss_cons (ps_set (i := 5) sc__law_row.nd rfl (Or.inl rfl) (pe_op op_mod (pe_ix ix_list (pv 2) pe_int (fun _ _ => rfl)) (pe_fld (pv 0) rfl)))
  (pss_cons (ps_if (pt_cmpR op_ne (pv 3) pe_str (nomark _))
      (pss_one (ps_ret (pe_tup (pa_cons (pv 3) (pa_cons (pv 4) (pa_cons (pv 5) pa_nil))))))
      (pss_nil))
  (pss_cons (ps_set (i := 6) sc__law_row.nd rfl (Or.inl rfl) (pe_op op_mod (pe_ix ix_list (pv 2) pe_int (fun _ _ => rfl)) (pe_op op_sub (pe_fld (pv 0) rfl) pe_int)))
  (pss_one (ps_ret (pe_tup (pa_cons (pv 3) (pa_cons (pv 4) (pa_cons (pv 6) (pa_cons (pe_op op_add (pe_op op_add (pv 6) pe_int) (pe_op op_mod (pe_ix ix_list (pv 2) pe_int (fun _ _ => rfl)) (pe_op op_sub (pe_op op_sub (pe_fld (pv 0) rfl) pe_int) (pv 6)))) pa_nil))))))))))))))
    , ?_⟩
  refine ⟨_, rfl, x, 4, rfl, by decide, fun p ds H1 s1 np hl hp => ?_⟩
  obtain ⟨d0, d1, d2, d3, rfl⟩ := four_ hl
  obtain ⟨dx, t0, t1, t2, t3, x0, x1, x2, x3, gw, j0, q0, j1, q1, j2, q2, j3, q3⟩ := (hW.same s1).ex
  have l0 := paired_len q0
  have l1 := paired_len q1
  have l3 := paired_len q3
  have nS := wg.nS
  have nT := wg.nT
  have nP := wg.nP
  have hh := wg.hor
  have p3 : (0 : Int) < (x3.length : Int) := by omega
  have p1 : (0 : Int) < (x1.length : Int) := by omega
  have p0 : (0 : Int) < (x0.length : Int) := by omega
  have hz : (0 : Int) < W.horizon := by omega
  obtain ⟨kp, ekp⟩ : ∃ k : Nat, d1 % (x3.length : Int) = (k : Int) := ⟨(d1 % (x3.length : Int)).toNat, by have := Int.emod_nonneg d1 (b := (x3.length : Int)) (by omega); omega⟩
  have bkp := Int.emod_lt_of_pos d1 p3
  obtain ⟨kt, ekt⟩ : ∃ k : Nat, d1 % (x1.length : Int) = (k : Int) := ⟨(d1 % (x1.length : Int)).toNat, by have := Int.emod_nonneg d1 (b := (x1.length : Int)) (by omega); omega⟩
  have bkt := Int.emod_lt_of_pos d1 p1
  obtain ⟨ks, eks⟩ : ∃ k : Nat, d1 % (x0.length : Int) = (k : Int) := ⟨(d1 % (x0.length : Int)).toNat, by have := Int.emod_nonneg d1 (b := (x0.length : Int)) (by omega); omega⟩
  have bks := Int.emod_lt_of_pos d1 p0
  obtain ⟨km, ekm⟩ : ∃ k : Nat, d2 % W.horizon = (k : Int) := ⟨(d2 % W.horizon).toNat, by have := Int.emod_nonneg d2 (b := W.horizon) (by omega); omega⟩
  have bkm := Int.emod_lt_of_pos d2 hz
  obtain ⟨k0, ek0⟩ : ∃ k : Nat, d3 % (W.horizon - 1) = (k : Int) := ⟨(d3 % (W.horizon - 1)).toNat, by have := Int.emod_nonneg d3 (b := W.horizon - 1) (by omega); omega⟩
  have bk0 := Int.emod_lt_of_pos d3 (show 0 < W.horizon - 1 by omega)
  have pd : 0 < W.horizon - 1 - (k0 : Int) := by omega
  obtain ⟨k1, ek1⟩ : ∃ k : Nat, d2 % (W.horizon - 1 - (k0 : Int)) = (k : Int) := ⟨(d2 % (W.horizon - 1 - (k0 : Int))).toNat, by have := Int.emod_nonneg d2 (b := W.horizon - 1 - (k0 : Int)) (by omega); omega⟩
  have bk1 := Int.emod_lt_of_pos d2 pd
  have mins1 : ∀ m ∈ [km], (m : Int) < W.horizon := fun m hm => by rw [List.mem_singleton.mp hm]; omega
  refine ⟨(by show 6 ≤ sizeLine; decide), fun tk htk => ?_⟩
  have stk := same_new htk (.tup [.str "room", .str "station", .str "satellite", .str "store", .str "energy", .str "energy from"])
  have hp2 := stk _ _ hp
  have htk2 : SqT K (upd H1 tk (.tup [.str "room", .str "station", .str "satellite", .str "store", .str "energy", .str "energy from"])) tk [.str "room", .str "station", .str "satellite", .str "store", .str "energy", .str "energy from"] := SqT.of upd_same
  generalize upd H1 tk (.tup [.str "room", .str "station", .str "satellite", .str "store", .str "energy", .str "energy from"]) = H2 at stk hp2 htk2
  have gw2 := stk _ _ gw
  have sA := s1.trans stk
  have kd : d0 % 6 = 0 ∨ d0 % 6 = 1 ∨ d0 % 6 = 2 ∨ d0 % 6 = 3 ∨ d0 % 6 = 4 ∨ d0 % 6 = 5 := by omega
  rcases kd with e | e | e | e | e | e
  · refine ⟨_, rfl, _, _, 0, _, rfl, rfl, SqL.of hp2, rfl, _, _, rfl, rfl, (by show (0 : Int) < _; decide), tk, _, _, _, rfl, rfl, htk2, (by rw [e]; rfl), ?_⟩
    refine ⟨_, rfl, rfl, _, rfl, iteT' (by show decide (V.str (Str.ofString "room") = V.str _) = true; decide +kernel) ?_⟩
    refine ⟨_, rfl, _, rfl, _, _, 1, _, rfl, rfl, SqL.of hp2, rfl, _, rfl, ac, CW, dx, _, _, rfl, gw2, T.c_World.cl, T.n_World_passes, lk_World_passes, t3, x3, rfl, .inr (Same.tup stk j3), _, _, rfl, rfl, p3, sz2_, fun v hv => ?_⟩
    refine q v (.room kp) _ (sA.trans (same_new hv _)) ⟨by show kp < W.pass.length; omega, fun m hm => (nomatch hm), True.intro⟩ (SqT.of ?_)
    rw [upd_same]
    show some (HO.tup [.str "room", .int (d1 % (x3.length : Int))]) = _
    rw [ekp]
    rfl
  · refine ⟨_, rfl, _, _, 0, _, rfl, rfl, SqL.of hp2, rfl, _, _, rfl, rfl, (by show (0 : Int) < _; decide), tk, _, _, _, rfl, rfl, htk2, (by rw [e]; rfl), ?_⟩
    refine ⟨_, rfl, rfl, _, rfl, iteF' (by show decide (V.str (Str.ofString "station") = V.str _) = false; decide +kernel) ?_⟩
    refine ⟨_, rfl, rfl, _, rfl, iteT' (by show decide (V.str (Str.ofString "station") = V.str _) = true; decide +kernel) ?_⟩
    refine ⟨_, rfl, _, rfl, _, _, 1, _, rfl, rfl, SqL.of hp2, rfl, _, rfl, ac, CW, dx, _, _, rfl, gw2, T.c_World.cl, T.n_World_stations, lk_World_stations, t1, x1, rfl, .inr (Same.tup stk j1), _, _, rfl, rfl, p1, _, rfl, _, _, 2, _, rfl, rfl, SqL.of hp2, rfl, _, rfl, ac, CW, dx, _, _, rfl, gw2, T.c_World.cl, T.n_World_horizon, lk_World_horizon, _, _, rfl, rfl, hz, (by show 3 ≤ sizeLine; decide), fun v hv => ?_⟩
    refine q v (.sta kt km) _ (sA.trans (same_new hv _)) ⟨by show kt < W.stas.length; omega, mins1, True.intro⟩ (SqT.of ?_)
    rw [upd_same]
    show some (HO.tup [.str "station", .int (d1 % (x1.length : Int)), .int (d2 % W.horizon)]) = _
    rw [ekt, ekm]
    rfl
  · refine ⟨_, rfl, _, _, 0, _, rfl, rfl, SqL.of hp2, rfl, _, _, rfl, rfl, (by show (0 : Int) < _; decide), tk, _, _, _, rfl, rfl, htk2, (by rw [e]; rfl), ?_⟩
    refine ⟨_, rfl, rfl, _, rfl, iteF' (by show decide (V.str (Str.ofString "satellite") = V.str _) = false; decide +kernel) ?_⟩
    refine ⟨_, rfl, rfl, _, rfl, iteF' (by show decide (V.str (Str.ofString "satellite") = V.str _) = false; decide +kernel) ?_⟩
    refine ⟨_, rfl, _, _, 1, _, rfl, rfl, SqL.of hp2, rfl, _, rfl, ac, CW, dx, _, _, rfl, gw2, T.c_World.cl, T.n_World_satellites, lk_World_satellites, t0, x0, rfl, .inr (Same.tup stk j0), _, _, rfl, rfl, p0, ?_⟩
    refine ⟨_, rfl, _, _, 2, _, rfl, rfl, SqL.of hp2, rfl, _, rfl, ac, CW, dx, _, _, rfl, gw2, T.c_World.cl, T.n_World_horizon, lk_World_horizon, _, _, rfl, rfl, hz, ?_⟩
    refine ⟨_, rfl, rfl, _, rfl, iteT' (by show (!decide (V.str (Str.ofString "satellite") = V.str _)) = true; decide +kernel) ?_⟩
    refine ⟨_, rfl, _, rfl, _, rfl, (by show 3 ≤ sizeLine; decide), fun v hv => ?_⟩
    refine q v (.sat ks km) _ (sA.trans (same_new hv _)) ⟨by show ks < W.sats.length; omega, mins1, True.intro⟩ (SqT.of ?_)
    rw [upd_same]
    show some (HO.tup [.str "satellite", .int (d1 % (x0.length : Int)), .int (d2 % W.horizon)]) = _
    rw [eks, ekm]
    rfl
  · refine ⟨_, rfl, _, _, 0, _, rfl, rfl, SqL.of hp2, rfl, _, _, rfl, rfl, (by show (0 : Int) < _; decide), tk, _, _, _, rfl, rfl, htk2, (by rw [e]; rfl), ?_⟩
    refine ⟨_, rfl, rfl, _, rfl, iteF' (by show decide (V.str (Str.ofString "store") = V.str _) = false; decide +kernel) ?_⟩
    refine ⟨_, rfl, rfl, _, rfl, iteF' (by show decide (V.str (Str.ofString "store") = V.str _) = false; decide +kernel) ?_⟩
    refine ⟨_, rfl, _, _, 1, _, rfl, rfl, SqL.of hp2, rfl, _, rfl, ac, CW, dx, _, _, rfl, gw2, T.c_World.cl, T.n_World_satellites, lk_World_satellites, t0, x0, rfl, .inr (Same.tup stk j0), _, _, rfl, rfl, p0, ?_⟩
    refine ⟨_, rfl, _, _, 2, _, rfl, rfl, SqL.of hp2, rfl, _, rfl, ac, CW, dx, _, _, rfl, gw2, T.c_World.cl, T.n_World_horizon, lk_World_horizon, _, _, rfl, rfl, hz, ?_⟩
    refine ⟨_, rfl, rfl, _, rfl, iteT' (by show (!decide (V.str (Str.ofString "store") = V.str _)) = true; decide +kernel) ?_⟩
    refine ⟨_, rfl, _, rfl, _, rfl, (by show 3 ≤ sizeLine; decide), fun v hv => ?_⟩
    refine q v (.store ks km) _ (sA.trans (same_new hv _)) ⟨by show ks < W.sats.length; omega, mins1, True.intro⟩ (SqT.of ?_)
    rw [upd_same]
    show some (HO.tup [.str "store", .int (d1 % (x0.length : Int)), .int (d2 % W.horizon)]) = _
    rw [eks, ekm]
    rfl
  · refine ⟨_, rfl, _, _, 0, _, rfl, rfl, SqL.of hp2, rfl, _, _, rfl, rfl, (by show (0 : Int) < _; decide), tk, _, _, _, rfl, rfl, htk2, (by rw [e]; rfl), ?_⟩
    refine ⟨_, rfl, rfl, _, rfl, iteF' (by show decide (V.str (Str.ofString "energy") = V.str _) = false; decide +kernel) ?_⟩
    refine ⟨_, rfl, rfl, _, rfl, iteF' (by show decide (V.str (Str.ofString "energy") = V.str _) = false; decide +kernel) ?_⟩
    refine ⟨_, rfl, _, _, 1, _, rfl, rfl, SqL.of hp2, rfl, _, rfl, ac, CW, dx, _, _, rfl, gw2, T.c_World.cl, T.n_World_satellites, lk_World_satellites, t0, x0, rfl, .inr (Same.tup stk j0), _, _, rfl, rfl, p0, ?_⟩
    refine ⟨_, rfl, _, _, 2, _, rfl, rfl, SqL.of hp2, rfl, _, rfl, ac, CW, dx, _, _, rfl, gw2, T.c_World.cl, T.n_World_horizon, lk_World_horizon, _, _, rfl, rfl, hz, ?_⟩
    refine ⟨_, rfl, rfl, _, rfl, iteT' (by show (!decide (V.str (Str.ofString "energy") = V.str _)) = true; decide +kernel) ?_⟩
    refine ⟨_, rfl, _, rfl, _, rfl, (by show 3 ≤ sizeLine; decide), fun v hv => ?_⟩
    refine q v (.energy ks km) _ (sA.trans (same_new hv _)) ⟨by show ks < W.sats.length; omega, mins1, True.intro⟩ (SqT.of ?_)
    rw [upd_same]
    show some (HO.tup [.str "energy", .int (d1 % (x0.length : Int)), .int (d2 % W.horizon)]) = _
    rw [eks, ekm]
    rfl
  · refine ⟨_, rfl, _, _, 0, _, rfl, rfl, SqL.of hp2, rfl, _, _, rfl, rfl, (by show (0 : Int) < _; decide), tk, _, _, _, rfl, rfl, htk2, (by rw [e]; rfl), ?_⟩
    refine ⟨_, rfl, rfl, _, rfl, iteF' (by show decide (V.str (Str.ofString "energy from") = V.str _) = false; decide +kernel) ?_⟩
    refine ⟨_, rfl, rfl, _, rfl, iteF' (by show decide (V.str (Str.ofString "energy from") = V.str _) = false; decide +kernel) ?_⟩
    refine ⟨_, rfl, _, _, 1, _, rfl, rfl, SqL.of hp2, rfl, _, rfl, ac, CW, dx, _, _, rfl, gw2, T.c_World.cl, T.n_World_satellites, lk_World_satellites, t0, x0, rfl, .inr (Same.tup stk j0), _, _, rfl, rfl, p0, ?_⟩
    refine ⟨_, rfl, _, _, 2, _, rfl, rfl, SqL.of hp2, rfl, _, rfl, ac, CW, dx, _, _, rfl, gw2, T.c_World.cl, T.n_World_horizon, lk_World_horizon, _, _, rfl, rfl, hz, ?_⟩
    refine ⟨_, rfl, rfl, _, rfl, iteF' (by show (!decide (V.str (Str.ofString "energy from") = V.str _)) = false; decide +kernel) ?_⟩
    refine ⟨_, rfl, _, _, 3, _, rfl, rfl, SqL.of hp2, rfl, _, rfl, ac, CW, dx, _, _, rfl, gw2, T.c_World.cl, T.n_World_horizon, lk_World_horizon, _, _, rfl, rfl, _, _, rfl, rfl, (by show 0 < W.horizon - 1; omega), ?_⟩
    refine ⟨_, rfl, _, rfl, _, rfl, _, rfl, _, _, rfl, rfl, _, rfl, _, _, 2, _, rfl, rfl, SqL.of hp2, rfl, _, rfl, ac, CW, dx, _, _, rfl, gw2, T.c_World.cl, T.n_World_horizon, lk_World_horizon, _, _, rfl, rfl, _, rfl, _, _, rfl, rfl, _, _, rfl, rfl, (by show 0 < W.horizon - 1 - d3 % (W.horizon - 1); rw [ek0]; exact pd), _, _, rfl, rfl, (by show 4 ≤ sizeLine; decide), fun v hv => ?_⟩
    refine q v (.efrom ks k0 (k0 + 1 + k1)) _ (sA.trans (same_new hv _)) ⟨by show ks < W.sats.length; omega, fun m hm => ?_, by show k0 < k0 + 1 + k1; omega⟩ (SqT.of ?_)
    · rcases List.mem_cons.mp hm with rfl | hm
      · omega
      · rw [List.mem_singleton.mp hm]
        omega
    · rw [upd_same]
      show some (HO.tup [.str "energy from", .int (d1 % (x0.length : Int)), .int (d3 % (W.horizon - 1)), .int (d3 % (W.horizon - 1) + 1 + d2 % (W.horizon - 1 - d3 % (W.horizon - 1)))]) = _
      rw [eks, ek0, ek1, show (k0 : Int) + 1 + (k1 : Int) = ((k0 + 1 + k1 : Nat) : Int) by omega]
      rfl
end
end DP
namespace DP
open PySem PySem.Spec PyProof.Rows L2
def vR (W : WorldD) (c : CaseD) (f : RecD → Int → Int → Int) (k : Nat) : Int := match W.recs[k]?, c.made[k]? with
  | some z, some (.at_ s p) => f z s p
  | _, _ => 0
def vP (W : WorldD) (c : CaseD) (g : Nat → PasD → Int → Int) (k : Nat) : Int := match W.pass[k]?, c.taken[k]? with
  | some z, some (.ant n) => g k z n
  | _, _ => 0
def sN (v : Nat → Int) : Nat → Int
  | 0 => 0
  | n + 1 => sN v n + v n
theorem vR_at {W : WorldD} {c : CaseD} {f : RecD → Int → Int → Int} {k : Nat} {z : RecD} {s p : Int} (hz : W.recs[k]? = some z) (he : c.made[k]? = some (.at_ s p)) : vR W c f k = f z s p := by
  unfold vR
  rw [hz, he]
theorem vP_at {W : WorldD} {c : CaseD} {g : Nat → PasD → Int → Int} {k : Nat} {z : PasD} {n : Int} (hz : W.pass[k]? = some z) (he : c.taken[k]? = some (.ant n)) : vP W c g k = g k z n := by
  unfold vP
  rw [hz, he]
theorem vR_cases (W : WorldD) (c : CaseD) (k : Nat) : (∃ z s p, W.recs[k]? = some z ∧ c.made[k]? = some (.at_ s p)) ∨ ∀ f, vR W c f k = 0 := by
  unfold vR
  cases hz : W.recs[k]? with
  | none => exact .inr fun f => rfl
  | some z =>
    cases he : c.made[k]? with
    | none => exact .inr fun f => rfl
    | some e =>
      cases e with
      | non => exact .inr fun f => rfl
      | opn => exact .inr fun f => rfl
      | at_ s p => exact .inl ⟨z, s, p, rfl, rfl⟩
theorem vP_cases (W : WorldD) (c : CaseD) (k : Nat) : (∃ z n, W.pass[k]? = some z ∧ c.taken[k]? = some (.ant n)) ∨ ∀ g, vP W c g k = 0 := by
  unfold vP
  cases hz : W.pass[k]? with
  | none => exact .inr fun f => rfl
  | some z =>
    cases he : c.taken[k]? with
    | none => exact .inr fun f => rfl
    | some e =>
      cases e with
      | non => exact .inr fun f => rfl
      | opn => exact .inr fun f => rfl
      | ant n => exact .inl ⟨z, n, rfl, rfl⟩
theorem sN_add {a b v : Nat → Int} {n : Nat} (h : ∀ k, k < n → v k = a k + b k) : sN v n = sN a n + sN b n := by
  induction n with
  | zero => rfl
  | succ n ih =>
    have h1 := ih fun k hk => h k (by omega)
    have h2 := h n (by omega)
    show sN v n + v n = sN a n + a n + (sN b n + b n)
    omega
theorem sN_zero {v : Nat → Int} {n : Nat} (h : ∀ k, k < n → v k = 0) : sN v n = 0 := by
  induction n with
  | zero => rfl
  | succ n ih =>
    have h1 := ih fun k hk => h k (by omega)
    have h2 := h n (by omega)
    show sN v n + v n = 0
    omega
theorem sN_pos {v : Nat → Int} {n : Nat} (h : ∀ k, k < n → 0 ≤ v k) : 0 ≤ sN v n := by
  induction n with
  | zero => exact Int.le_refl _
  | succ n ih =>
    have h1 := ih fun k hk => h k (by omega)
    have h2 := h n (by omega)
    show 0 ≤ sN v n + v n
    omega
theorem sN_eq {a v : Nat → Int} {n : Nat} (h : ∀ k, k < n → v k = a k) : sN v n = sN a n := by
  induction n with
  | zero => rfl
  | succ n ih =>
    have h1 := ih fun k hk => h k (by omega)
    have h2 := h n (by omega)
    show sN v n + v n = sN a n + a n
    omega
theorem sN_one {v : Nat → Int} {n : Nat} (h : ∀ k, k < n → v k = 0 ∨ v k = 1) (h2 : ∀ i j, i < j → j < n → v i = 1 → v j = 1 → False) : sN v n ≤ 1 := by
  induction n with
  | zero => show (0 : Int) ≤ 1; decide
  | succ n ih =>
    have h1 := ih (fun k hk => h k (by omega)) fun i j a b => h2 i j a (by omega)
    show sN v n + v n ≤ 1
    rcases h n (by omega) with e | e
    · omega
    · have e0 : sN v n = 0 := sN_zero fun k hk => by
        rcases h k (by omega) with e1 | e1
        · exact e1
        · exact (h2 k n hk (by omega) e1 e).elim
      omega
theorem sN_only {v : Nat → Int} {n q : Nat} (h : ∀ k, k < n → k ≠ q → v k = 0) (hq : q < n) : sN v n = v q := by
  induction n with
  | zero => omega
  | succ n ih =>
    show sN v n + v n = v q
    by_cases e : q = n
    · subst e
      rw [sN_zero fun k hk => h k (by omega) (by omega)]
      omega
    · rw [ih (fun k hk => h k (by omega)) (by omega), h n (by omega) fun z => e z.symm]
      omega
theorem sum_rgf (g : Nat → List Int) (n : Nat) : ((List.range n).flatMap g).sum = sN (fun k => (g k).sum) n := by
  induction n with
  | zero => rfl
  | succ n ih =>
    rw [rgf_succ, List.sum_append, ih]
    rfl
theorem left_sum (W : WorldD) (row : RowD) (c : CaseD) : leftW W row c = sN (vR W c (recPart W row)) W.recs.length + sN (vP W c fun k z _ => pasPart W row k z) W.pass.length := by
  unfold leftW leftL
  rw [List.sum_append, sum_rgf, sum_rgf]
  congr 1
  · refine sN_eq fun k _ => ?_
    rcases vR_cases W c k with ⟨z, s, p, hz, he⟩ | h0
    · rw [vR_at hz he]
      unfold leftRecAt
      rw [hz, he]
      exact Int.add_zero _
    · rw [h0]
      unfold leftRecAt
      split
      · rename_i z s p hz he
        have := h0 fun _ _ _ => 1
        rw [vR_at hz he] at this
        cases this
      · rfl
  · refine sN_eq fun k _ => ?_
    rcases vP_cases W c k with ⟨z, n, hz, he⟩ | h0
    · rw [vP_at hz he]
      unfold leftPasAt
      rw [hz, he]
      exact Int.add_zero _
    · rw [h0]
      unfold leftPasAt
      split
      · rename_i z n hz he
        have := h0 fun _ _ _ => 1
        rw [vP_at hz he] at this
        cases this
      · rfl
def enR (s : Nat) (pr : Int → Bool) : RecD → Int → Int → Int := fun z st _ => if z.sat = s then (if pr st = true then z.energy else 0) else 0
def enP (s : Nat) (pr : Int → Bool) : Nat → PasD → Int → Int := fun _ z _ => if z.sat = s then (if pr z.first = true then z.energy else 0) else 0
def enS (W : WorldD) (c : CaseD) (s : Nat) (pr : Int → Bool) : Int := sN (vR W c (enR s pr)) W.recs.length + sN (vP W c (enP s pr)) W.pass.length
theorem en_add {W : WorldD} {c : CaseD} {s : Nat} {p1 p2 pr : Int → Bool} (h : ∀ x, pr x = (p1 x || p2 x)) (h2 : ∀ x, p1 x = true → p2 x = false) : enS W c s pr = enS W c s p1 + enS W c s p2 := by
  have e1 : sN (vR W c (enR s pr)) W.recs.length = sN (vR W c (enR s p1)) W.recs.length + sN (vR W c (enR s p2)) W.recs.length := sN_add fun k _ => by
    rcases vR_cases W c k with ⟨z, st, p, hz, he⟩ | h0
    · rw [vR_at hz he, vR_at hz he, vR_at hz he]
      unfold enR
      rw [h st]
      by_cases a : z.sat = s
      · rw [if_pos a, if_pos a, if_pos a]
        cases x1 : p1 st with
        | true => rw [h2 st x1]; exact (Int.add_zero _).symm
        | false => rw [Bool.false_or, if_neg Bool.false_ne_true, Int.zero_add]
      · rw [if_neg a, if_neg a, if_neg a]
        rfl
    · rw [h0, h0, h0]
      rfl
  have e2 : sN (vP W c (enP s pr)) W.pass.length = sN (vP W c (enP s p1)) W.pass.length + sN (vP W c (enP s p2)) W.pass.length := sN_add fun k _ => by
    rcases vP_cases W c k with ⟨z, n, hz, he⟩ | h0
    · rw [vP_at hz he, vP_at hz he, vP_at hz he]
      unfold enP
      rw [h z.first]
      by_cases a : z.sat = s
      · rw [if_pos a, if_pos a, if_pos a]
        cases x1 : p1 z.first with
        | true => rw [h2 _ x1]; exact (Int.add_zero _).symm
        | false => rw [Bool.false_or, if_neg Bool.false_ne_true, Int.zero_add]
      · rw [if_neg a, if_neg a, if_neg a]
        rfl
    · rw [h0, h0, h0]
      rfl
  unfold enS
  omega
theorem en_none {W : WorldD} {c : CaseD} {s : Nat} {pr : Int → Bool} (h : ∀ x, 0 ≤ x → pr x = false) (wok : WorldOk W) (cg : CaseG W false c) : enS W c s pr = 0 := by
  unfold enS
  have x1 : sN (vR W c (enR s pr)) W.recs.length = 0 := sN_zero fun k _ => by
    rcases vR_cases W c k with ⟨z, st, p, hz, he⟩ | h0
    · rw [vR_at hz he]
      unfold enR
      have := (cg.mOk _ (List.mem_of_getElem? he)).1
      rw [h st this]
      split <;> rfl
    · rw [h0]
  have x2 : sN (vP W c (enP s pr)) W.pass.length = 0 := sN_zero fun k _ => by
    rcases vP_cases W c k with ⟨z, n, hz, he⟩ | h0
    · rw [vP_at hz he]
      unfold enP
      rw [h z.first (wok.pass z (List.mem_of_getElem? hz)).first.1]
      split <;> rfl
    · rw [h0]
  rw [x1, x2]
  rfl
theorem en_pos {W : WorldD} {c : CaseD} {s : Nat} {pr : Int → Bool} (wok : WorldOk W) : 0 ≤ enS W c s pr := by
  unfold enS
  have a : 0 ≤ sN (vR W c (enR s pr)) W.recs.length := sN_pos fun k _ => by
    rcases vR_cases W c k with ⟨z, st, p, hz, he⟩ | h0
    · rw [vR_at hz he]
      unfold enR
      have := (wok.recs z (List.mem_of_getElem? hz)).energy
      split
      · split <;> omega
      · exact Int.le_refl _
    · rw [h0]
      exact Int.le_refl _
  have b : 0 ≤ sN (vP W c (enP s pr)) W.pass.length := sN_pos fun k _ => by
    rcases vP_cases W c k with ⟨z, n, hz, he⟩ | h0
    · rw [vP_at hz he]
      unfold enP
      have := (wok.pass z (List.mem_of_getElem? hz)).energy
      split
      · split <;> omega
      · exact Int.le_refl _
    · rw [h0]
      exact Int.le_refl _
  omega
theorem left_en (W : WorldD) (c : CaseD) (s m : Nat) : leftW W (.energy s m) c = enS W c s fun x => decide (x ≤ (m : Int)) := by
  rw [left_sum]
  unfold enS
  congr 1
  · refine sN_eq fun k _ => ?_
    rcases vR_cases W c k with ⟨z, st, p, hz, he⟩ | h0
    · rw [vR_at hz he, vR_at hz he]
      unfold enR
      show (if z.sat = s then (if st ≤ (m : Int) then z.energy else 0) else 0) = (if z.sat = s then (if decide (st ≤ (m : Int)) = true then z.energy else 0) else 0)
      by_cases a : st ≤ (m : Int)
      · rw [if_pos a, decide_eq_true a, if_pos rfl]
      · rw [if_neg a, decide_eq_false a, if_neg Bool.false_ne_true]
    · rw [h0, h0]
  · refine sN_eq fun k _ => ?_
    rcases vP_cases W c k with ⟨z, n, hz, he⟩ | h0
    · rw [vP_at hz he, vP_at hz he]
      unfold enP
      show (if z.sat = s then (if z.first ≤ (m : Int) then z.energy else 0) else 0) = (if z.sat = s then (if decide (z.first ≤ (m : Int)) = true then z.energy else 0) else 0)
      by_cases a : z.first ≤ (m : Int)
      · rw [if_pos a, decide_eq_true a, if_pos rfl]
      · rw [if_neg a, decide_eq_false a, if_neg Bool.false_ne_true]
    · rw [h0, h0]
theorem left_ef (W : WorldD) (c : CaseD) (s m0 m : Nat) : leftW W (.efrom s m0 m) c = enS W c s fun x => decide (x ≤ (m : Int) ∧ (m0 : Int) < x) := by
  rw [left_sum]
  unfold enS
  congr 1
  · refine sN_eq fun k _ => ?_
    rcases vR_cases W c k with ⟨z, st, p, hz, he⟩ | h0
    · rw [vR_at hz he, vR_at hz he]
      unfold enR
      show (if z.sat = s then (if st ≤ (m : Int) ∧ (m0 : Int) < st then z.energy else 0) else 0) = (if z.sat = s then (if decide (st ≤ (m : Int) ∧ (m0 : Int) < st) = true then z.energy else 0) else 0)
      by_cases a : st ≤ (m : Int) ∧ (m0 : Int) < st
      · rw [if_pos a, decide_eq_true a, if_pos rfl]
      · rw [if_neg a, decide_eq_false a, if_neg Bool.false_ne_true]
    · rw [h0, h0]
  · refine sN_eq fun k _ => ?_
    rcases vP_cases W c k with ⟨z, n, hz, he⟩ | h0
    · rw [vP_at hz he, vP_at hz he]
      unfold enP
      show (if z.sat = s then (if z.first ≤ (m : Int) ∧ (m0 : Int) < z.first then z.energy else 0) else 0) = (if z.sat = s then (if decide (z.first ≤ (m : Int) ∧ (m0 : Int) < z.first) = true then z.energy else 0) else 0)
      by_cases a : z.first ≤ (m : Int) ∧ (m0 : Int) < z.first
      · rw [if_pos a, decide_eq_true a, if_pos rfl]
      · rw [if_neg a, decide_eq_false a, if_neg Bool.false_ne_true]
    · rw [h0, h0]
def spM (W : WorldD) (c : CaseD) (s m : Nat) : Int := enS W c s fun x => decide (x = (m : Int))
def usM (W : WorldD) (c : CaseD) (s m : Nat) : Int := sN (vR W c (recPart W (.store s m))) W.recs.length
def nxt (z : SatD) (m : Nat) (b : Int) : Int := if z.light.any (hasM (m : Int)) = true then (if b + z.charge < z.battery then b + z.charge else z.battery) else b
def lvM (W : WorldD) (c : CaseD) (s : Nat) (z : SatD) : Nat → Int
  | 0 => z.level
  | m + 1 => nxt z m (lvM W c s z m - spM W c s m)
def LevF (W : WorldD) (c : CaseD) (s : Nat) (z : SatD) (n : Nat) : Prop := ∀ m, m < n → usM W c s m ≤ z.store ∧ z.reserve ≤ lvM W c s z m - spM W c s m
theorem nxt_le {z : SatD} {h : Int} (ok : SatOk h z) {m : Nat} {b : Int} (hb : b ≤ z.battery) : nxt z m b ≤ z.battery ∧ b ≤ nxt z m b ∧ nxt z m b ≤ b + z.charge * ((z.light.filter (hasM (m : Int))).length : Int) := by
  have h1 := (any_one (m := (m : Int)) ok.light).2
  have h2 := ok.charge
  unfold nxt
  rw [h1]
  by_cases c : z.light.any (hasM (m : Int)) = true
  · rw [if_pos c, if_pos c, Int.mul_one]
    split <;> omega
  · rw [if_neg c, if_neg c, Int.mul_zero]
    omega
theorem lv_le {W : WorldD} (wok : WorldOk W) {c : CaseD} {s : Nat} {z : SatD} {h : Int} (ok : SatOk h z) : ∀ m, lvM W c s z m ≤ z.battery
  | 0 => ok.level.2
  | m + 1 => by
    have ih := lv_le wok (c := c) (s := s) ok m
    have p : 0 ≤ spM W c s m := en_pos wok
    exact (nxt_le ok (by omega)).1
theorem lv_up {W : WorldD} (wok : WorldOk W) {c : CaseD} {s : Nat} {z : SatD} {h : Int} (ok : SatOk h z) (cg : CaseG W false c) : ∀ m : Nat, lvM W c s z m ≤ z.level - enS W c s (fun x => decide (x < (m : Int))) + z.charge * mw z.light 0 m
  | 0 => by
    rw [en_none (fun x hx => decide_eq_false (by omega)) wok cg, mw_le (by omega), Int.mul_zero]
    show z.level ≤ _
    omega
  | m + 1 => by
    have ih := lv_up wok (s := s) ok cg m
    have b := lv_le wok (c := c) (s := s) ok m
    have p : 0 ≤ spM W c s m := en_pos wok
    have n := (nxt_le ok (m := m) (b := lvM W c s z m - spM W c s m) (by omega)).2.2
    have e : enS W c s (fun x => decide (x < ((m + 1 : Nat) : Int))) = enS W c s (fun x => decide (x < (m : Int))) + spM W c s m := en_add (fun x => by
      rw [← Bool.decide_or, decide_eq_decide]
      omega) fun x h => decide_eq_false (by have := of_decide_eq_true h; omega)
    have w : mw z.light 0 ((m + 1 : Nat) : Int) = mw z.light 0 (m : Int) + ((z.light.filter (hasM (m : Int))).length : Int) := by
      rw [show ((m + 1 : Nat) : Int) = (m : Int) + 1 by omega]
      exact mw_succ (by omega) _ (light_lt ok.light)
    rw [e, w, Int.mul_add]
    show nxt z m (lvM W c s z m - spM W c s m) ≤ _
    omega
theorem lv_from {W : WorldD} (wok : WorldOk W) {c : CaseD} {s : Nat} {z : SatD} {h : Int} (ok : SatOk h z) (cg : CaseG W false c) (m0 : Nat) : ∀ d : Nat, lvM W c s z (m0 + 1 + d) ≤ z.battery - enS W c s (fun x => decide (x < ((m0 + 1 + d : Nat) : Int) ∧ (m0 : Int) < x)) + z.charge * mw z.light ((m0 : Int) + 1) ((m0 + 1 + d : Nat) : Int)
  | 0 => by
    rw [en_none (fun x hx => decide_eq_false (by omega)) wok cg, mw_le (by omega), Int.mul_zero]
    have := lv_le wok (c := c) (s := s) ok (m0 + 1 + 0)
    omega
  | d + 1 => by
    have ih := lv_from wok (s := s) ok cg m0 d
    have b := lv_le wok (c := c) (s := s) ok (m0 + 1 + d)
    have p : 0 ≤ spM W c s (m0 + 1 + d) := en_pos wok
    have n := (nxt_le ok (m := m0 + 1 + d) (b := lvM W c s z (m0 + 1 + d) - spM W c s (m0 + 1 + d)) (by omega)).2.2
    have e : enS W c s (fun x => decide (x < ((m0 + 1 + (d + 1) : Nat) : Int) ∧ (m0 : Int) < x)) = enS W c s (fun x => decide (x < ((m0 + 1 + d : Nat) : Int) ∧ (m0 : Int) < x)) + spM W c s (m0 + 1 + d) := en_add (fun x => by
      rw [← Bool.decide_or, decide_eq_decide]
      omega) fun x h => decide_eq_false (by have := of_decide_eq_true h; omega)
    have w : mw z.light ((m0 : Int) + 1) ((m0 + 1 + (d + 1) : Nat) : Int) = mw z.light ((m0 : Int) + 1) ((m0 + 1 + d : Nat) : Int) + ((z.light.filter (hasM ((m0 + 1 + d : Nat) : Int))).length : Int) := by
      rw [show ((m0 + 1 + (d + 1) : Nat) : Int) = ((m0 + 1 + d : Nat) : Int) + 1 by omega]
      exact mw_succ (by omega) _ (light_lt ok.light)
    rw [e, w, Int.mul_add]
    show nxt z (m0 + 1 + d) (lvM W c s z (m0 + 1 + d) - spM W c s (m0 + 1 + d)) ≤ _
    omega
def meetX (x y : Int × Int) (n : Int) : Bool := decide (x.1 < y.2 + n) && decide (y.1 < x.2 + n)
def busR (W : WorldD) (c : CaseD) (s : Nat) (k : Nat) : List (Int × Int) := match W.recs[k]?, c.made[k]? with
  | some z, some (.at_ st _) => if z.sat = s then [(st, st + z.length)] else []
  | _, _ => []
def busP (W : WorldD) (c : CaseD) (s : Nat) (k : Nat) : List (Int × Int) := match W.pass[k]?, c.taken[k]? with
  | some z, some (.ant _) => if z.sat = s then [(z.first, z.fin)] else []
  | _, _ => []
def busL (W : WorldD) (c : CaseD) (s : Nat) : List (Int × Int) := (List.range W.recs.length).flatMap (busR W c s) ++ (List.range W.pass.length).flatMap (busP W c s)
def inS (m n : Int) (q : Int × Int) : Int := if inM m q.1 (q.2 + n) = true then 1 else 0
theorem in_meet {m n : Int} {x y : Int × Int} (h1 : inM m x.1 (x.2 + n) = true) (h2 : inM m y.1 (y.2 + n) = true) : meetX x y n = true := by
  unfold inM at h1 h2
  rw [Bool.and_eq_true] at h1 h2
  have a := of_decide_eq_true h1.1
  have b := of_decide_eq_true h1.2
  have d := of_decide_eq_true h2.1
  have e := of_decide_eq_true h2.2
  unfold meetX
  rw [decide_eq_true (by omega), decide_eq_true (by omega)]
  rfl
theorem pw_one {m n : Int} : ∀ {l : List (Int × Int)}, (∀ (i j : Nat) (x y : Int × Int), i < j → l[i]? = some x → l[j]? = some y → meetX x y n = false) → (l.map (inS m n)).sum ≤ 1
  | [], _ => by show (0 : Int) ≤ 1; decide
  | q :: r, h => by
    have ih := pw_one (m := m) (n := n) (l := r) fun i j x y a b d => h (i + 1) (j + 1) x y (by omega) b d
    rw [List.map_cons, List.sum_cons]
    by_cases c : inM m q.1 (q.2 + n) = true
    · have z : ∀ {t : List (Int × Int)}, (∀ x ∈ t, x ∈ r) → (t.map (inS m n)).sum = 0 := fun {t} => by
        induction t with
        | nil => exact fun _ => rfl
        | cons a t it =>
          intro ht
          rw [List.map_cons, List.sum_cons, it fun x hx => ht x (List.mem_cons_of_mem _ hx)]
          obtain ⟨j, hj⟩ := List.getElem?_of_mem (ht a List.mem_cons_self)
          have hm := h 0 (j + 1) q a (by omega) rfl hj
          unfold inS
          by_cases c2 : inM m a.1 (a.2 + n) = true
          · rw [in_meet c c2] at hm
            cases hm
          · rw [if_neg c2]
            rfl
      rw [z fun x hx => hx]
      unfold inS
      rw [if_pos c]
      exact Int.le_refl _
    · unfold inS at ih ⊢
      rw [if_neg c]
      omega
theorem left_sat (W : WorldD) (c : CaseD) (s m : Nat) : leftW W (.sat s m) c = ((busL W c s).map (inS (m : Int) (rwSet W s))).sum := by
  rw [left_sum]
  unfold busL
  rw [List.map_append, List.sum_append, List.map_flatMap, List.map_flatMap, sum_rgf, sum_rgf]
  congr 1
  · refine sN_eq fun k _ => ?_
    unfold busR
    rcases vR_cases W c k with ⟨z, st, p, hz, he⟩ | h0
    · rw [vR_at hz he, hz, he]
      show (if z.sat = s then (if inM m st (st + z.length + rwSet W s) = true then 1 else 0) else 0) = _
      by_cases a : z.sat = s
      · rw [if_pos a]
        show _ = ((if z.sat = s then [(st, st + z.length)] else []).map _).sum
        rw [if_pos a]
        exact (Int.add_zero _).symm
      · rw [if_neg a]
        show _ = ((if z.sat = s then [(st, st + z.length)] else []).map _).sum
        rw [if_neg a]
        rfl
    · rw [h0]
      split
      · rename_i z st p hz he
        have := h0 fun _ _ _ => 1
        rw [vR_at hz he] at this
        cases this
      · rfl
  · refine sN_eq fun k _ => ?_
    unfold busP
    rcases vP_cases W c k with ⟨z, n, hz, he⟩ | h0
    · rw [vP_at hz he, hz, he]
      show (if z.sat = s then (if inM m z.first (z.fin + rwSet W s) = true then 1 else 0) else 0) = _
      by_cases a : z.sat = s
      · rw [if_pos a]
        show _ = ((if z.sat = s then [(z.first, z.fin)] else []).map _).sum
        rw [if_pos a]
        exact (Int.add_zero _).symm
      · rw [if_neg a]
        show _ = ((if z.sat = s then [(z.first, z.fin)] else []).map _).sum
        rw [if_neg a]
        rfl
    · rw [h0]
      split
      · rename_i z n hz he
        have := h0 fun _ _ _ => 1
        rw [vP_at hz he] at this
        cases this
      · rfl
structure PasK (W : WorldD) (c : CaseD) (p : Nat) (z : PasD) (n : Int) (t : StaD) : Prop where
  lo : 0 ≤ n
  hi : n < t.antennas
  room : sN (vR W c (recPart W (.room p))) W.recs.length ≤ z.room
  turn : ∀ (q : Nat) (y : PasD), q < p → W.pass[q]? = some y → c.taken[q]? = some (.ant n) → y.sta = z.sta → meetX (y.first, y.fin) (z.first, z.fin) t.turn = false
structure KeptP (W : WorldD) (c : CaseD) : Prop where
  cg : CaseG W false c
  opt : ∀ (k : Nat) (z : RecD) (s p : Int), W.recs[k]? = some z → c.made[k]? = some (EntM.at_ s p) → (s, p) ∈ optsW W z ∧ ∃ n, c.taken[p.toNat]? = some (.ant n)
  pas : ∀ (p : Nat) (z : PasD) (n : Int) (t : StaD), W.pass[p]? = some z → c.taken[p]? = some (.ant n) → W.stas[z.sta]? = some t → PasK W c p z n t
  bus : ∀ (s : Nat) (z : SatD), W.sats[s]? = some z → ∀ (i j : Nat) (x y : Int × Int), i < j → (busL W c s)[i]? = some x → (busL W c s)[j]? = some y → meetX x y z.settle = false
  lev : ∀ (s : Nat) (z : SatD), W.sats[s]? = some z → LevF W c s z W.horizon.toNat
theorem sta_count {W : WorldD} {c : CaseD} {s m : Nat} {t : StaD} (ht : W.stas[s]? = some t) (k : KeptP W c) : ∀ N : Nat, sN (vP W c fun _ z n => if n < (N : Int) then pasPart W (.sta s m) 0 z else 0) W.pass.length ≤ (N : Int)
  | 0 => by
    rw [sN_zero fun j _ => ?_]
    · exact Int.le_refl _
    · rcases vP_cases W c j with ⟨z, n, hz, he⟩ | h0
      · rw [vP_at hz he]
        by_cases h : W.stas[z.sta]? = none
        · have e : ¬ z.sta = s := fun e => by rw [e, ht] at h; cases h
          show (if n < ((0 : Nat) : Int) then (if z.sta = s then _ else (0 : Int)) else 0) = 0
          rw [if_neg e]
          split <;> rfl
        · obtain ⟨u, hu⟩ := Option.ne_none_iff_exists'.mp h
          have := (k.pas j z n u hz he hu).lo
          rw [if_neg (by omega)]
      · rw [h0]
  | N + 1 => by
    have ih := sta_count (m := m) ht k N
    have e := sN_add (n := W.pass.length) (v := vP W c fun _ z n => if n < ((N + 1 : Nat) : Int) then pasPart W (.sta s m) 0 z else 0) (a := vP W c fun _ z n => if n < (N : Int) then pasPart W (.sta s m) 0 z else 0) (b := vP W c fun _ z n => if n = (N : Int) then pasPart W (.sta s m) 0 z else 0) fun j _ => by
      rcases vP_cases W c j with ⟨z, n, hz, he⟩ | h0
      · rw [vP_at hz he, vP_at hz he, vP_at hz he]
        by_cases a : n < (N : Int)
        · rw [if_pos (by omega), if_pos a, if_neg (by omega), Int.add_zero]
        · by_cases b : n = (N : Int)
          · rw [if_pos (by omega), if_neg a, if_pos b, Int.zero_add]
          · rw [if_neg (by omega), if_neg a, if_neg b]
            rfl
      · rw [h0, h0, h0]
        rfl
    have val : ∀ j z n, W.pass[j]? = some z → c.taken[j]? = some (.ant n) → vP W c (fun _ z n => if n = (N : Int) then pasPart W (.sta s m) 0 z else 0) j = if n = (N : Int) ∧ z.sta = s ∧ inM m z.first (z.fin + rwTurn W s) = true then 1 else 0 := fun j z n hz he => by
      rw [vP_at hz he]
      show (if n = (N : Int) then (if z.sta = s then (if inM m z.first (z.fin + rwTurn W s) = true then 1 else 0) else 0) else 0) = _
      by_cases a : n = (N : Int)
      · by_cases b : z.sta = s
        · by_cases d : inM m z.first (z.fin + rwTurn W s) = true
          · rw [if_pos a, if_pos b, if_pos d, if_pos ⟨a, b, d⟩]
          · rw [if_pos a, if_pos b, if_neg d, if_neg fun h => d h.2.2]
        · rw [if_pos a, if_neg b, if_neg fun h => b h.2.1]
      · rw [if_neg a, if_neg fun h => a h.1]
    have o : sN (vP W c fun _ z n => if n = (N : Int) then pasPart W (.sta s m) 0 z else 0) W.pass.length ≤ 1 := sN_one (fun j _ => by
      rcases vP_cases W c j with ⟨z, n, hz, he⟩ | h0
      · rw [val j z n hz he]
        split
        · exact .inr rfl
        · exact .inl rfl
      · exact .inl (h0 _)) fun i j hij hj h1 h2 => by
      rcases vP_cases W c i with ⟨y, a, hy, hey⟩ | h0
      · rcases vP_cases W c j with ⟨z, b, hz, hez⟩ | h0
        · rw [val _ _ _ hy hey] at h1
          rw [val _ _ _ hz hez] at h2
          by_cases c1 : a = (N : Int) ∧ y.sta = s ∧ inM m y.first (y.fin + rwTurn W s) = true
          · by_cases c2 : b = (N : Int) ∧ z.sta = s ∧ inM m z.first (z.fin + rwTurn W s) = true
            · obtain ⟨rfl, y1, y2⟩ := c1
              obtain ⟨rfl, z1, z2⟩ := c2
              have hs : W.stas[z.sta]? = some t := by rw [z1]; exact ht
              have g := (k.pas j z _ t hz hez hs).turn i y hij hy hey (by rw [y1, z1])
              rw [rwTurn_of ht] at y2 z2
              have := in_meet (m := (m : Int)) (n := t.turn) (x := (y.first, y.fin)) (y := (z.first, z.fin)) y2 z2
              rw [g] at this
              cases this
            · rw [if_neg c2] at h2
              cases h2
          · rw [if_neg c1] at h1
            cases h1
        · rw [h0] at h2
          cases h2
      · rw [h0] at h1
        cases h1
    omega
theorem kept_row {W : WorldD} (wok : WorldOk W) {c : CaseD} (k : KeptP W c) {row : RowD} (ok : RowOk W row) : leftW W row c ≤ rightW W row := by
  cases row with
  | room q =>
    have hq : q < W.pass.length := ok.num
    obtain ⟨z, hz⟩ : ∃ z, W.pass[q]? = some z := ⟨_, List.getElem?_eq_getElem hq⟩
    have zok := wok.pass z (List.mem_of_getElem? hz)
    obtain ⟨t, ht⟩ : ∃ t, W.stas[z.sta]? = some t := ⟨_, List.getElem?_eq_getElem zok.sta⟩
    rw [left_sum]
    show _ ≤ (0 : Int)
    rw [sN_only (q := q) (fun j _ hj => ?_) hq]
    · rcases vP_cases W c q with ⟨y, n, hy, he⟩ | h0
      · have r := (k.pas q y n t hy he (by rw [hz] at hy; cases hy; exact ht)).room
        rw [vP_at hy he]
        show _ + (if q = q then -y.room else 0) ≤ 0
        rw [if_pos rfl]
        omega
      · rw [h0, sN_zero fun j _ => ?_]
        · exact Int.le_refl _
        · rcases vR_cases W c j with ⟨y, s, p, hy, he⟩ | h1
          · rw [vR_at hy he]
            obtain ⟨_, n, hn⟩ := k.opt j y s p hy he
            show (if p = (q : Int) then y.size else 0) = 0
            rw [if_neg]
            intro e
            rw [e, Int.toNat_natCast] at hn
            have := h0 fun _ _ _ => 1
            rw [vP_at hz hn] at this
            cases this
          · exact h1 _
    · rcases vP_cases W c j with ⟨y, n, hy, he⟩ | h0
      · rw [vP_at hy he]
        exact if_neg hj
      · exact h0 _
  | sta s m =>
    obtain ⟨t, ht⟩ : ∃ t, W.stas[s]? = some t := ⟨_, List.getElem?_eq_getElem ok.num⟩
    have tok := wok.stas t (List.mem_of_getElem? ht)
    have h := sta_count (m := m) ht k t.antennas.toNat
    rw [left_sum, show rightW W (.sta s m) = t.antennas from by show (match W.stas[s]? with | some z => z.antennas | none => 0) = _; rw [ht]]
    rw [sN_zero (n := W.recs.length) fun j _ => by
      rcases vR_cases W c j with ⟨y, s, p, hy, he⟩ | h1
      · rw [vR_at hy he]
        rfl
      · exact h1 _]
    have e : sN (vP W c fun k z _ => pasPart W (.sta s m) k z) W.pass.length = sN (vP W c fun _ z n => if n < (t.antennas.toNat : Int) then pasPart W (.sta s m) 0 z else 0) W.pass.length := sN_eq fun j _ => by
      rcases vP_cases W c j with ⟨z, n, hz, he⟩ | h0
      · rw [vP_at hz he, vP_at hz he]
        by_cases a : z.sta = s
        · have := (k.pas j z n t hz he (by rw [a]; exact ht)).hi
          have := tok.antennas
          rw [if_pos (by omega)]
          rfl
        · show (if z.sta = s then _ else (0 : Int)) = (if _ then (if z.sta = s then _ else (0 : Int)) else 0)
          rw [if_neg a]
          split <;> rfl
      · rw [h0, h0]
    rw [e]
    have := tok.antennas
    omega
  | sat s m =>
    obtain ⟨z, hz⟩ : ∃ z, W.sats[s]? = some z := ⟨_, List.getElem?_eq_getElem ok.num⟩
    rw [left_sat, rwSet_of hz]
    exact pw_one (k.bus s z hz)
  | store s m =>
    obtain ⟨z, hz⟩ : ∃ z, W.sats[s]? = some z := ⟨_, List.getElem?_eq_getElem ok.num⟩
    have hm := ok.mins m List.mem_cons_self
    have l := (k.lev s z hz m (by omega)).1
    rw [left_sum, show rightW W (.store s m) = z.store from by show (match W.sats[s]? with | some z => z.store | none => 0) = _; rw [hz]]
    rw [sN_zero (n := W.pass.length) fun j _ => by
      rcases vP_cases W c j with ⟨y, n, hy, he⟩ | h1
      · rw [vP_at hy he]
        rfl
      · exact h1 _]
    unfold usM at l
    omega
  | energy s m =>
    obtain ⟨z, hz⟩ : ∃ z, W.sats[s]? = some z := ⟨_, List.getElem?_eq_getElem ok.num⟩
    have zok := wok.sats z (List.mem_of_getElem? hz)
    have hm := ok.mins m List.mem_cons_self
    have l := (k.lev s z hz m (by omega)).2
    have u := lv_up wok (s := s) zok k.cg m
    rw [left_en, show rightW W (.energy s m) = z.level - z.reserve + z.charge * mw z.light 0 m from by show (match W.sats[s]? with | some z => z.level - z.reserve + z.charge * mw z.light 0 m | none => 0) = _; rw [hz]]
    have e : enS W c s (fun x => decide (x ≤ (m : Int))) = enS W c s (fun x => decide (x < (m : Int))) + spM W c s m := en_add (fun x => by
      rw [← Bool.decide_or, decide_eq_decide]
      omega) fun x h => decide_eq_false (by have := of_decide_eq_true h; omega)
    rw [e]
    omega
  | efrom s m0 m =>
    obtain ⟨z, hz⟩ : ∃ z, W.sats[s]? = some z := ⟨_, List.getElem?_eq_getElem ok.num⟩
    have zok := wok.sats z (List.mem_of_getElem? hz)
    have hm := ok.mins m (List.mem_cons_of_mem _ List.mem_cons_self)
    have ha : m0 < m := ok.asc
    have l := (k.lev s z hz m (by omega)).2
    obtain ⟨d, rfl⟩ : ∃ d, m = m0 + 1 + d := ⟨m - (m0 + 1), by omega⟩
    have u := lv_from wok (s := s) zok k.cg m0 d
    rw [left_ef, show rightW W (.efrom s m0 (m0 + 1 + d)) = z.battery - z.reserve + z.charge * mw z.light ((m0 : Int) + 1) ((m0 + 1 + d : Nat) : Int) from by show (match W.sats[s]? with | some z => z.battery - z.reserve + z.charge * mw z.light ((m0 : Int) + 1) ((m0 + 1 + d : Nat) : Int) | none => 0) = _; rw [hz]]
    have e : enS W c s (fun x => decide (x ≤ ((m0 + 1 + d : Nat) : Int) ∧ (m0 : Int) < x)) = enS W c s (fun x => decide (x < ((m0 + 1 + d : Nat) : Int) ∧ (m0 : Int) < x)) + spM W c s (m0 + 1 + d) := en_add (fun x => by
      rw [← Bool.decide_or, decide_eq_decide]
      omega) fun x h => decide_eq_false (by have := of_decide_eq_true h; omega)
    rw [e]
    omega
def noPlan (W : WorldD) : CaseD := ⟨List.replicate W.recs.length .non, List.replicate W.pass.length .non⟩
theorem noR (W : WorldD) (f : RecD → Int → Int → Int) (k : Nat) : vR W (noPlan W) f k = 0 := by
  rcases vR_cases W (noPlan W) k with ⟨z, s, p, hz, he⟩ | h0
  · have := List.mem_of_getElem? he
    cases (List.mem_replicate.mp this).2
  · exact h0 _
theorem noP (W : WorldD) (f : Nat → PasD → Int → Int) (k : Nat) : vP W (noPlan W) f k = 0 := by
  rcases vP_cases W (noPlan W) k with ⟨z, n, hz, he⟩ | h0
  · have := List.mem_of_getElem? he
    cases (List.mem_replicate.mp this).2
  · exact h0 _
theorem no_made {W : WorldD} {k : Nat} {s p : Int} (h : (noPlan W).made[k]? = some (.at_ s p)) : False := by
  cases (List.mem_replicate.mp (List.mem_of_getElem? h)).2
theorem no_taken {W : WorldD} {k : Nat} {n : Int} (h : (noPlan W).taken[k]? = some (.ant n)) : False := by
  cases (List.mem_replicate.mp (List.mem_of_getElem? h)).2
theorem kept_none {W : WorldD} (wok : WorldOk W) : KeptP W (noPlan W) where
  cg := ⟨List.length_replicate, List.length_replicate, fun e he => by rw [(List.mem_replicate.mp he).2]; exact True.intro, fun e he => by rw [(List.mem_replicate.mp he).2]; exact True.intro⟩
  opt := fun k z s p _ he => (no_made he).elim
  pas := fun p z n t _ he _ => (no_taken he).elim
  bus := fun s z hz i j x y _ hx _ => by
    have e : busL W (noPlan W) s = [] := by
      unfold busL
      rw [List.append_eq_nil_iff, List.flatMap_eq_nil_iff, List.flatMap_eq_nil_iff]
      refine ⟨fun k _ => ?_, fun k _ => ?_⟩
      · unfold busR
        split
        · rename_i he
          exact (no_made he).elim
        · rfl
      · unfold busP
        split
        · rename_i he
          exact (no_taken he).elim
        · rfl
    rw [e] at hx
    cases hx
  lev := fun s z hz => by
    have zok := wok.sats z (List.mem_of_getElem? hz)
    have s0 : ∀ m, spM W (noPlan W) s m = 0 := fun m => by
      unfold spM enS
      rw [sN_zero fun k _ => noR W _ k, sN_zero fun k _ => noP W _ k]
      rfl
    have lv : ∀ m, z.level ≤ lvM W (noPlan W) s z m := fun m => by
      induction m with
      | zero => exact Int.le_refl _
      | succ m ih =>
        have b := lv_le wok (c := noPlan W) (s := s) zok m
        have n := (nxt_le zok (m := m) (b := lvM W (noPlan W) s z m - spM W (noPlan W) s m) (by have := s0 m; omega)).2.1
        have := s0 m
        show z.level ≤ nxt z m (lvM W (noPlan W) s z m - spM W (noPlan W) s m)
        omega
    intro m _
    refine ⟨?_, ?_⟩
    · unfold usM
      rw [sN_zero fun k _ => noR W _ k]
      exact zok.store.1
    · have := lv m
      have := s0 m
      have := zok.reserve
      omega
end DP
namespace DP
open PySem PySem.Spec PyProof.Rows L2
abbrev s__law_meet : Stmt := topS 65
theorem sc__law_meet : FnScope ["one", "other", "more"] ["one", "other", "more"] (defScope s__law_meet) := ⟨rfl, rfl, rfl, by decide +kernel, rfl, by decide +kernel, by decide +kernel⟩
abbrev s__law_busy : Stmt := topS 66
theorem sc__law_busy : FnScope ["world", "plan", "s", "found", "r", "entry", "p", "antenna"] ["world", "plan", "s"] (defScope s__law_busy) := ⟨rfl, rfl, rfl, by decide +kernel, rfl, by decide +kernel, by decide +kernel⟩
theorem busR_len (W : WorldD) (c : CaseD) (s k : Nat) : (busR W c s k).length ≤ 1 := by
  unfold busR
  split
  · split <;> simp
  · simp
theorem busP_len (W : WorldD) (c : CaseD) (s k : Nat) : (busP W c s k).length ≤ 1 := by
  unfold busP
  split
  · split <;> simp
  · simp
theorem int_dec (a b : Nat) : decide (V.int (a : Int) = V.int (b : Int)) = decide (a = b) := by
  by_cases h : a = b
  · rw [h, decide_eq_true rfl, decide_eq_true rfl]
  · rw [decide_eq_false h, decide_eq_false fun e => h (by injection e with e; omega)]
section
variable {P : Program} {w : World} {K : PySem.W.Frag} {mg : Str → Option Value} {base : Heap} {CL CS CT CR CP CW aS aR fS fT fR fP : Addr}
def spMeetX (K : PySem.W.Frag) : Sp := fun vs H Q _ => ∃ (a b : Addr) (x y : Int × Int) (n : Int), vs = [.ref a, .ref b, .int n] ∧ SqT K H a [.int x.1, .int x.2] ∧ SqT K H b [.int y.1, .int y.2] ∧ Q (.bl (meetX x y n)) H
theorem d_meetX (B : Bt mg) (A : At K mg "_law_meet" s__law_meet ["one", "other", "more"]) : DefOk P w K mg base CX0 1 "_law_meet" ["one", "other", "more"] (spMeetX K) := by
  refine A.ok sc__law_meet (fun vs H Q E h => ?_) (fun f cdv A outer s H vs Q E hr h => ?_)
  · obtain ⟨a, b, x, y, n, rfl, _⟩ := h
    rfl
  obtain ⟨a, b, x, y, n, rfl, ha, hb, q⟩ := h
  refine ⟨_, pss_one (ps_ret (pe_and (pe_cmpR op_lt (pe_ix ix_tup (pv 0) pe_int (fun _ _ => rfl)) (pe_op op_add (pe_ix ix_tup (pv 1) pe_int (fun _ _ => rfl)) (pv 2)) (nomark _)) (pe_one (pe_cmpR op_lt (pe_ix ix_tup (pv 1) pe_int (fun _ _ => rfl)) (pe_op op_add (pe_ix ix_tup (pv 0) pe_int (fun _ _ => rfl)) (pv 2)) (nomark _)))))
    , ?_⟩
  unfold meetX at q
  refine ⟨_, rfl, a, _, 0, _, rfl, rfl, ha, rfl, _, rfl, b, _, 1, _, rfl, rfl, hb, rfl, _, rfl, _, _, rfl, rfl, _, _, rfl, rfl, _, rfl, ite2 (fun k1 => ?_) (fun k1 => ?_)⟩
  · refine ⟨_, rfl, b, _, 0, _, rfl, rfl, hb, rfl, _, rfl, a, _, 1, _, rfl, rfl, ha, rfl, _, rfl, _, _, rfl, rfl, _, _, rfl, rfl, ?_⟩
    rw [show decide (x.1 < y.2 + n) = true from k1, Bool.true_and] at q
    exact q
  · rw [show decide (x.1 < y.2 + n) = false from Bool.eq_false_iff.mpr k1, Bool.false_and] at q
    exact q
def spBusyX (K : PySem.W.Frag) (CS CT CR CP CW : Addr) : Sp := fun vs H Q _ => ∃ (ac : Addr) (v : V) (W : WorldD) (c : CaseD) (s : Nat), vs = [.ref ac, v, .int (s : Int)] ∧ WorldOk W ∧ WorldAt K CS CT CR CP CW H ac W ∧ CaseG W false c ∧ Dp K H v (casePy c) ∧
  ∀ D xs H', Same H H' → H D = none → H' D = some (.lst xs) → Spans K H' xs (busL W c s) → Q (.ref D) H'
set_option maxHeartbeats 8000000 in
theorem d_busyX (T : TxtW K mg CL CS CT CR CP CW aS aR fS fT fR fP) (A : At K mg "_law_busy" s__law_busy ["world", "plan", "s"]) : DefOk P w K mg base CX0 1 "_law_busy" ["world", "plan", "s"] (spBusyX K CS CT CR CP CW) := by
  have B := T.L.B
  refine A.ok sc__law_busy (fun vs H Q E h => ?_) (fun f cdv A outer s0 H vs Q E hr h => ?_)
  · obtain ⟨ac, v, W, c, s, rfl, _⟩ := h
    rfl
  obtain ⟨ac, v, W, c, s, rfl, wok, hW, cg, hc, q⟩ := h
  obtain ⟨tc, tm, tt, xm, xt, rfl, htc, hm, htt, hxm, hxt, lm, lt⟩ := case_two hc
  have nM := cg.nM
  have nT := cg.nT
  have nR := wok.nRecs
  have nP := wok.nPass
  refine ⟨_, pss_cons (ps_set (i := 3) sc__law_busy.nd rfl (Or.inl rfl) (pe_lst pa_nil))
  (pss_cons (ps_for PassesOwn.never rfl (pi_enumT (by rfl) B.enumerate (pa_cons (pe_ix ix_tup (pv 1) pe_int (fun _ _ => rfl)) pa_nil)) (pg_tup (by rfl) (pgs_cons (pg_name (i := 4) sc__law_busy.nd rfl (Or.inl rfl)) (pgs_cons (pg_name (i := 5) sc__law_busy.nd rfl (Or.inl rfl)) (pgs_nil))))
      (pss_one (ps_if (PW.pt (pw_and (pt_cmpR op_notN (pv 5) pe_non (nomark _)) (pw_and1 (pt_cmpR op_eq (pe_fld (pe_ix ix_tup (pe_fld (pv 0) rfl) (pv 4) (fun _ _ => rfl)) rfl) (pv 2) (nomark _)))))
          (pss_one (ps_expr (pe_bm PySem.F.plainAttrs_list PySem.F.slot_list_append PySem.F.type_list_append mt_append (pv 3) (pa_cons (pe_tup (pa_cons (pe_ix ix_tup (pv 5) pe_int (fun _ _ => rfl)) (pa_cons (pe_op op_add (pe_ix ix_tup (pv 5) pe_int (fun _ _ => rfl)) (pe_fld (pe_ix ix_tup (pe_fld (pv 0) rfl) (pv 4) (fun _ _ => rfl)) rfl)) pa_nil))) pa_nil))))
          (pss_nil))))
  (pss_cons (ps_for PassesOwn.never rfl (pi_enumT (by rfl) B.enumerate (pa_cons (pe_ix ix_tup (pv 1) pe_int (fun _ _ => rfl)) pa_nil)) (pg_tup (by rfl) (pgs_cons (pg_name (i := 6) sc__law_busy.nd rfl (Or.inl rfl)) (pgs_cons (pg_name (i := 7) sc__law_busy.nd rfl (Or.inl rfl)) (pgs_nil))))
      (pss_one (ps_if (PW.pt (pw_and (pt_cmpR op_notN (pv 7) pe_non (nomark _)) (pw_and1 (pt_cmpR op_eq (pe_fld (pe_ix ix_tup (pe_fld (pv 0) rfl) (pv 6) (fun _ _ => rfl)) rfl) (pv 2) (nomark _)))))
          (pss_one (ps_expr (pe_bm PySem.F.plainAttrs_list PySem.F.slot_list_append PySem.F.type_list_append mt_append (pv 3) (pa_cons (pe_fld (pe_ix ix_tup (pe_fld (pv 0) rfl) (pv 6) (fun _ _ => rfl)) rfl) pa_nil))))
          (pss_nil))))
  (pss_one (ps_ret (pv 3)))))
    , ?_⟩
  refine ⟨Nat.zero_le _, fun D hD => ?_⟩
  have sD := same_new hD (.lst [])
  refine ⟨_, rfl, tc, _, 0, _, rfl, rfl, Same.tup sD htc, rfl, tm, xm, rfl, Same.tup sD hm, ?_⟩
  refine for_it (walk_enumT (xs := xm)) (fun i σ H' => ∃ (xs : List V) (y4 y5 : Option V), σ = [some (.ref ac), some (.ref tc), some (.int (s : Int)), some (.ref D), y4, y5, none, none] ∧ H' D = some (.lst xs) ∧ Spans K H' xs ((List.range i).flatMap (busR W c s)) ∧ Same H H') ⟨[], none, none, rfl, upd_same, .nil, sD⟩ (fun i σ H' _ hI => ?_) (fun i v σ H2 H3 hi hI hy => ?_) (fun σ H2 hI => ?_)
  · obtain ⟨xs, y4, y5, rfl, _, _, hs⟩ := hI
    exact Same.tup hs hm
  · obtain ⟨xs, y4, y5, rfl, hDD, hsp, hs⟩ := hI
    obtain ⟨tp, v1, rfl, htp, rfl, hv⟩ := hy
    obtain ⟨e, he, dv⟩ := dpAll_get hxm hv
    obtain ⟨z, hz⟩ : ∃ z, W.recs[i]? = some z := ⟨_, List.getElem?_eq_getElem (by omega)⟩
    have sT := same_new htp (.tup [.int (0 + (i : Nat)), v1])
    have sA := hs.trans sT
    have hDA := sT _ _ hDD
    have hspA := hsp.same sT
    have dA := dp_same sA dv
    have lx := paired_len hsp
    have lb := rgf_len (busR_len W c s) i
    refine ⟨tp, _, rfl, SqT.of upd_same, rfl, _, _, rfl, _, _, rfl, rfl, ?_⟩
    generalize (upd H2 tp (.tup [.int (0 + (i : Nat)), v1])) = H4 at sA hDA hspA dA
    obtain ⟨dx, t0, t1, t2, t3, x0, x1, x2, x3, gw, _, _, _, _, p2, q2, p3, q3⟩ := (hW.same sA).ex
    have stay : busR W c s i = [] → Spans K H4 xs ((List.range (i + 1)).flatMap (busR W c s)) := fun e0 => by
      rw [rgf_succ, e0, List.append_nil]
      exact hspA
    have mk := cg.mOk _ (List.mem_of_getElem? he)
    cases e with
    | non =>
      cases dA
      exact ⟨_, rfl, rfl, _, rfl, iteF' rfl (iteF ⟨xs, _, _, rfl, hDA, stay (by unfold busR; rw [hz, he]), sA⟩)⟩
    | opn => exact absurd mk Bool.false_ne_true
    | at_ st p =>
      obtain ⟨u, us, rfl, hu, hux⟩ := dp_tup dA
      have eux := dp_ints (ns := [st, p]) hux
      subst eux
      obtain ⟨ob, od, hob, o1⟩ := rw_rec q2 hz
      have hob' : atI x2 (0 + (i : Int)) = some (.ref ob) := by rw [Int.zero_add]; exact atI_nat hob
      refine ⟨_, rfl, rfl, _, rfl, iteT' rfl ?_⟩
      refine ⟨_, rfl, ac, CW, dx, _, _, rfl, gw, T.c_World.cl, T.n_World_recordings, lk_World_recordings, _, rfl, t2, x2, _, _, rfl, rfl, p2, hob', ob, CR, od, _, _, rfl, o1, T.c_Recording.cl, T.n_Recording_satellite, lk_Recording_satellite, _, rfl, rfl, _, rfl, ite2 (fun k => ?_) (fun k => ?_)⟩
      · have k := (int_dec z.sat s).symm.trans k
        have k := of_decide_eq_true k
        refine ⟨_, rfl, .inl ⟨rfl, _, SqL.of hDA⟩, _, rfl, u, _, 0, _, rfl, rfl, hu, rfl, _, rfl, u, _, 0, _, rfl, rfl, hu, rfl, _, rfl, ac, CW, dx, _, _, rfl, gw, T.c_World.cl, T.n_World_recordings, lk_World_recordings, _, rfl, t2, x2, _, _, rfl, rfl, p2, hob', ob, CR, od, _, _, rfl, o1, T.c_Recording.cl, T.n_Recording_length, lk_Recording_length, _, _, rfl, rfl, sz2_, fun t ht => ?_⟩
        have sB := same_new ht (.tup [.int st, .int (st + z.length)])
        refine ⟨D, xs, .ref t, rfl, rfl, sB _ _ hDA, small1000 (by omega), ?_⟩
        refine ⟨xs ++ [.ref t], _, _, rfl, upd_same, ?_, same_at hD (sA.trans sB) _⟩
        rw [rgf_succ, show busR W c s i = [(st, st + z.length)] from by unfold busR; rw [hz, he]; exact if_pos k]
        exact Spans.upd (paired_snoc (hspA.same sB) ⟨t, rfl, SqT.of upd_same⟩) (sB _ _ hDA)
      · have k : ¬ z.sat = s := fun e => k (by rw [e]; exact decide_eq_true rfl)
        exact ⟨xs, _, _, rfl, hDA, stay (by unfold busR; rw [hz, he]; exact if_neg k), sA⟩
  obtain ⟨xs, y4, y5, rfl, hDD, hsp, hs⟩ := hI
  rw [show xm.length = W.recs.length by omega] at hsp
  have lb0 := rgf_len (busR_len W c s) W.recs.length
  refine ⟨_, rfl, tc, _, 1, _, rfl, rfl, Same.tup hs htc, rfl, tt, xt, rfl, Same.tup hs htt, ?_⟩
  refine for_it (walk_enumT (xs := xt)) (fun i σ H' => ∃ (xs : List V) (y6 y7 : Option V), σ = [some (.ref ac), some (.ref tc), some (.int (s : Int)), some (.ref D), y4, y5, y6, y7] ∧ H' D = some (.lst xs) ∧ Spans K H' xs ((List.range W.recs.length).flatMap (busR W c s) ++ (List.range i).flatMap (busP W c s)) ∧ Same H H') ⟨xs, none, none, rfl, hDD, by rw [List.range_zero, List.flatMap_nil, List.append_nil]; exact hsp, hs⟩ (fun i σ H' _ hI => ?_) (fun i v σ H3 H4 hi hI hy => ?_) (fun σ H3 hI => ?_)
  · obtain ⟨xs, y6, y7, rfl, _, _, hs⟩ := hI
    exact Same.tup hs htt
  · obtain ⟨xs, y6, y7, rfl, hDD, hsp, hs⟩ := hI
    obtain ⟨tp, v1, rfl, htp, rfl, hv⟩ := hy
    obtain ⟨e, he, dv⟩ := dpAll_get hxt hv
    obtain ⟨z, hz⟩ : ∃ z, W.pass[i]? = some z := ⟨_, List.getElem?_eq_getElem (by omega)⟩
    have sT := same_new htp (.tup [.int (0 + (i : Nat)), v1])
    have sA := hs.trans sT
    have hDA := sT _ _ hDD
    have hspA := hsp.same sT
    have dA := dp_same sA dv
    have lx := paired_len hsp
    have lb := rgf_len (busP_len W c s) i
    rw [List.length_append] at lx
    refine ⟨tp, _, rfl, SqT.of upd_same, rfl, _, _, rfl, _, _, rfl, rfl, ?_⟩
    generalize (upd H3 tp (.tup [.int (0 + (i : Nat)), v1])) = H5 at sA hDA hspA dA
    obtain ⟨dx, t0, t1, t2, t3, x0, x1, x2, x3, gw, _, _, _, _, p2, q2, p3, q3⟩ := (hW.same sA).ex
    have stay : busP W c s i = [] → Spans K H5 xs ((List.range W.recs.length).flatMap (busR W c s) ++ (List.range (i + 1)).flatMap (busP W c s)) := fun e0 => by
      rw [rgf_succ, e0, List.append_nil]
      exact hspA
    have mk := cg.tOk _ (List.mem_of_getElem? he)
    cases e with
    | non =>
      cases dA
      exact ⟨_, rfl, rfl, _, rfl, iteF' rfl (iteF ⟨xs, _, _, rfl, hDA, stay (by unfold busP; rw [hz, he]), sA⟩)⟩
    | opn => exact absurd mk Bool.false_ne_true
    | ant n =>
      cases dA
      obtain ⟨pb, pd, ts, hpb, c1, c2⟩ := rw_pas q3 hz
      have hpb' : atI x3 (0 + (i : Int)) = some (.ref pb) := by rw [Int.zero_add]; exact atI_nat hpb
      refine ⟨_, rfl, rfl, _, rfl, iteT' rfl ?_⟩
      refine ⟨_, rfl, ac, CW, dx, _, _, rfl, gw, T.c_World.cl, T.n_World_passes, lk_World_passes, _, rfl, t3, x3, _, _, rfl, rfl, p3, hpb', pb, CP, pd, _, _, rfl, c1, T.c_Pass.cl, T.n_Pass_satellite, lk_Pass_satellite, _, rfl, rfl, _, rfl, ite2 (fun k => ?_) (fun k => ?_)⟩
      · have k := (int_dec z.sat s).symm.trans k
        have k := of_decide_eq_true k
        refine ⟨_, rfl, .inl ⟨rfl, _, SqL.of hDA⟩, _, rfl, ac, CW, dx, _, _, rfl, gw, T.c_World.cl, T.n_World_passes, lk_World_passes, _, rfl, t3, x3, _, _, rfl, rfl, p3, hpb', pb, CP, pd, _, _, rfl, c1, T.c_Pass.cl, T.n_Pass_span, lk_Pass_span, ?_⟩
        refine ⟨D, xs, .ref ts, rfl, rfl, hDA, small1000 (by omega), ?_⟩
        refine ⟨xs ++ [.ref ts], _, _, rfl, upd_same, ?_, same_at hD sA _⟩
        rw [rgf_succ, show busP W c s i = [(z.first, z.fin)] from by unfold busP; rw [hz, he]; exact if_pos k, ← List.append_assoc]
        exact Spans.upd (paired_snoc hspA ⟨ts, rfl, c2⟩) hDA
      · have k : ¬ z.sat = s := fun e => k (by rw [e]; exact decide_eq_true rfl)
        exact ⟨xs, _, _, rfl, hDA, stay (by unfold busP; rw [hz, he]; exact if_neg k), sA⟩
  obtain ⟨xs, y6, y7, rfl, hDD, hsp, hs⟩ := hI
  rw [show xt.length = W.pass.length by omega] at hsp
  exact ⟨_, rfl, q D xs _ hs hD hDD hsp⟩
end
end DP
namespace DP
open PySem PySem.Spec PyProof.Rows L2
abbrev s__law_levels_broken : Stmt := topS 67
theorem sc__law_levels_broken : FnScope ["world", "plan", "s", "satellite", "level", "m", "used", "r", "entry", "p", "antenna", "span"] ["world", "plan", "s"] (defScope s__law_levels_broken) := ⟨rfl, rfl, rfl, by decide +kernel, rfl, by decide +kernel, by decide +kernel⟩
theorem int_decI (a b : Int) : decide (V.int a = V.int b) = decide (a = b) := by
  by_cases h : a = b
  · rw [h, decide_eq_true rfl, decide_eq_true rfl]
  · rw [decide_eq_false h, decide_eq_false fun e => h (by injection e)]
section
variable {P : Program} {w : World} {K : PySem.W.Frag} {mg : Str → Option Value} {base : Heap} {CL CS CT CR CP CW aS aR fS fT fR fP : Addr}
def spLevX (K : PySem.W.Frag) (CS CT CR CP CW : Addr) : Sp := fun vs H Q _ => ∃ (ac : Addr) (v : V) (W : WorldD) (c : CaseD) (s : Nat) (z : SatD), vs = [.ref ac, v, .int (s : Int)] ∧ WorldOk W ∧ WorldAt K CS CT CR CP CW H ac W ∧ CaseG W false c ∧ Dp K H v (casePy c) ∧ W.sats[s]? = some z ∧
  ∀ (b : Bool) H', Same H H' → (b = false → LevF W c s z W.horizon.toNat) → Q (.bl b) H'
set_option maxHeartbeats 8000000 in
theorem d_levX (T : TxtW K mg CL CS CT CR CP CW aS aR fS fT fR fP) (A : At K mg "_law_levels_broken" s__law_levels_broken ["world", "plan", "s"]) : DefOk P w K mg base CX0 1 "_law_levels_broken" ["world", "plan", "s"] (spLevX K CS CT CR CP CW) := by
  have B := T.L.B
  refine A.ok sc__law_levels_broken (fun vs H Q E h => ?_) (fun f cdv A outer s0 H vs Q E hr h => ?_)
  · obtain ⟨ac, v, W, c, s, z, rfl, _⟩ := h
    rfl
  obtain ⟨ac, v, W, c, s, z, rfl, wok, hW, cg, hc, hzs, q⟩ := h
  obtain ⟨tc, tm, tt, xm, xt, rfl, htc, hm, htt, hxm, hxt, lm, lt⟩ := case_two hc
  obtain ⟨dx, t0, t1, t2, t3, x0, x1, x2, x3, gw, p0, q0, p1, q1, p2, q2, p3, q3⟩ := hW.ex
  obtain ⟨sb, sd, tl, ls, hsb, g1, g2, g3⟩ := rw_sat q0 hzs
  have zok := wok.sats z (List.mem_of_getElem? hzs)
  have hh := wok.horizon
  have ll := zok.light.len (by omega)
  have nM := cg.nM
  have nT := cg.nT
  have nR := wok.nRecs
  have nP := wok.nPass
  refine ⟨_, pss_cons (ps_set (i := 3) sc__law_levels_broken.nd rfl (Or.inl rfl) (pe_ix ix_tup (pe_fld (pv 0) rfl) (pv 2) (fun _ _ => rfl)))
  (pss_cons (ps_set (i := 4) sc__law_levels_broken.nd rfl (Or.inl rfl) (pe_fld (pv 3) rfl))
  (pss_cons (ps_for PassesOwn.never rfl (pi_range1 (by rfl) B.range (pa_cons (pe_fld (pv 0) rfl) pa_nil)) (pg_name (i := 5) sc__law_levels_broken.nd rfl (Or.inr rfl))
      (pss_cons (ps_set (i := 6) sc__law_levels_broken.nd rfl (Or.inl rfl) pe_int)
      (pss_cons (ps_for PassesOwn.never rfl (pi_enumT (by rfl) B.enumerate (pa_cons (pe_ix ix_tup (pv 1) pe_int (fun _ _ => rfl)) pa_nil)) (pg_tup (by rfl) (pgs_cons (pg_name (i := 7) sc__law_levels_broken.nd rfl (Or.inl rfl)) (pgs_cons (pg_name (i := 8) sc__law_levels_broken.nd rfl (Or.inl rfl)) (pgs_nil))))
          (pss_one (ps_if (PW.pt (pw_and (pt_cmpR op_notN (pv 8) pe_non (nomark _)) (pw_and1 (pt_cmpR op_eq (pe_fld (pe_ix ix_tup (pe_fld (pv 0) rfl) (pv 7) (fun _ _ => rfl)) rfl) (pv 2) (nomark _)))))
              (pss_cons (ps_if (pt_chain op_le op_lt (pe_ix ix_tup (pv 8) pe_int (fun _ _ => rfl)) (pv 5) (pe_ix ix_tup (pe_fld (pe_ix ix_tup (pe_fld (pv 0) rfl) (pe_ix ix_tup (pv 8) pe_int (fun _ _ => rfl)) (fun _ _ => rfl)) rfl) pe_int (fun _ _ => rfl)))
                  (pss_one (ps_set (i := 6) sc__law_levels_broken.nd rfl (Or.inl rfl) (pe_op op_add (pv 6) (pe_fld (pe_ix ix_tup (pe_fld (pv 0) rfl) (pv 7) (fun _ _ => rfl)) rfl))))
                  (pss_nil))
              (pss_one (ps_if (pt_cmpR op_eq (pe_ix ix_tup (pv 8) pe_int (fun _ _ => rfl)) (pv 5) (nomark _))
                  (pss_one (ps_set (i := 4) sc__law_levels_broken.nd rfl (Or.inl rfl) (pe_op op_sub (pv 4) (pe_fld (pe_ix ix_tup (pe_fld (pv 0) rfl) (pv 7) (fun _ _ => rfl)) rfl))))
                  (pss_nil))))
              (pss_nil))))
      (pss_cons (ps_for PassesOwn.never rfl (pi_enumT (by rfl) B.enumerate (pa_cons (pe_ix ix_tup (pv 1) pe_int (fun _ _ => rfl)) pa_nil)) (pg_tup (by rfl) (pgs_cons (pg_name (i := 9) sc__law_levels_broken.nd rfl (Or.inl rfl)) (pgs_cons (pg_name (i := 10) sc__law_levels_broken.nd rfl (Or.inl rfl)) (pgs_nil))))
          (pss_one (ps_if (PW.pt (pw_and (pt_cmpR op_notN (pv 10) pe_non (nomark _)) (pw_and (pt_cmpR op_eq (pe_fld (pe_ix ix_tup (pe_fld (pv 0) rfl) (pv 9) (fun _ _ => rfl)) rfl) (pv 2) (nomark _)) (pw_and1 (pt_cmpR op_eq (pe_ix ix_tup (pe_fld (pe_ix ix_tup (pe_fld (pv 0) rfl) (pv 9) (fun _ _ => rfl)) rfl) pe_int (fun _ _ => rfl)) (pv 5) (nomark _))))))
              (pss_one (ps_set (i := 4) sc__law_levels_broken.nd rfl (Or.inl rfl) (pe_op op_sub (pv 4) (pe_fld (pe_ix ix_tup (pe_fld (pv 0) rfl) (pv 9) (fun _ _ => rfl)) rfl))))
              (pss_nil))))
      (pss_cons (ps_if (PW.pt (pw_or (pt_cmpR op_gt (pv 6) (pe_fld (pv 3) rfl) (nomark _)) (pw_or1 (pt_cmpR op_lt (pv 4) (pe_fld (pv 3) rfl) (nomark _)))))
          (pss_one (ps_ret pe_bl))
          (pss_nil))
      (pss_one (ps_if (pt_cmpR op_gt (pe_callB (call_len_seq) (by rfl) B.len (by decide +kernel) (pa_cons (pe_lc (own := [("span", 11)])  rfl sc__law_levels_broken.nd (pi_tup (pe_fld (pv 3) rfl)) (blkOk_by (own := [("span", 11)]) (N := ["world", "plan", "s", "satellite", "level", "m", "used", "r", "entry", "p", "antenna", "span"]) (sc := defScope s__law_levels_broken) (by decide +kernel)) (fun _ _ _ _ _ => pg_name (i := 11) sc__law_levels_broken.nd rfl (Or.inl rfl)) (fun _ _ _ _ _ => pts_one (pt_chain op_le op_lt (pe_ix (ix_tupK (K := K) rfl) (pv 11) pe_int (fun _ _ => rfl)) (pv 5) (pe_ix (ix_tupK (K := K) rfl) (pv 11) pe_int (fun _ _ => rfl)))) (fun _ _ _ _ _ => pe_int)) pa_nil)) pe_int (nomark _))
          (pss_one (ps_set (i := 4) sc__law_levels_broken.nd rfl (Or.inl rfl) (pe_callB (call_min2 rfl) (by rfl) B.min (by decide +kernel) (pa_cons (pe_fld (pv 3) rfl) (pa_cons (pe_op op_add (pv 4) (pe_fld (pv 3) rfl)) pa_nil)))))
          (pss_nil))))))))
  (pss_one (ps_ret pe_bl))))
    , ?_⟩
  refine ⟨_, rfl, ac, CW, dx, _, _, rfl, gw, T.c_World.cl, T.n_World_satellites, lk_World_satellites, _, rfl, t0, x0, (s : Int), _, rfl, rfl, p0, atI_nat hsb, ?_⟩
  refine ⟨_, rfl, sb, CS, sd, _, _, rfl, g1, T.c_Satellite.cl, T.n_Satellite_start_level, lk_Satellite_start_level, ?_⟩
  refine ⟨_, rfl, ac, CW, dx, _, _, rfl, gw, T.c_World.cl, T.n_World_horizon, lk_World_horizon, W.horizon, rfl, by omega, by omega, ?_⟩
  refine for_range (lo := 0) (n := W.horizon.toNat) (fun i σ H' => ∃ y5 y6 y7 y8 y9 y10, σ = [some (.ref ac), some (.ref tc), some (.int (s : Int)), some (.ref sb), some (.int (lvM W c s z i)), y5, y6, y7, y8, y9, y10, none] ∧ Same H H' ∧ LevF W c s z i)
    ⟨none, none, none, none, none, none, rfl, Same.refl _, fun m hm => absurd hm (Nat.not_lt_zero _)⟩ (fun i σ H1 hi hI => ?_) (fun σ H1 hI => ?_)
  · obtain ⟨y5, y6, y7, y8, y9, y10, rfl, hs1, hl⟩ := hI
    refine ⟨_, rfl, tc, _, 0, _, rfl, rfl, Same.tup hs1 htc, rfl, tm, xm, rfl, Same.tup hs1 hm, ?_⟩
    refine for_it (walk_enumT (xs := xm)) (fun k σ H' => ∃ y7 y8, σ = [some (.ref ac), some (.ref tc), some (.int (s : Int)), some (.ref sb), some (.int (lvM W c s z i - sN (vR W c (enR s fun x => decide (x = (i : Int)))) k)), some (.int (0 + (i : Int))), some (.int (sN (vR W c (recPart W (.store s i))) k)), y7, y8, y9, y10, none] ∧ Same H H') ⟨y7, y8, by rw [show sN (vR W c (enR s fun x => decide (x = (i : Int)))) 0 = 0 from rfl, Int.sub_zero]; rfl, hs1⟩ (fun k σ H' _ hI => ?_) (fun k v σ H2 H3 hk hI hy => ?_) (fun σ H2 hI => ?_)
    · obtain ⟨y7, y8, rfl, hs⟩ := hI
      exact Same.tup hs hm
    · obtain ⟨y7, y8, rfl, hs⟩ := hI
      obtain ⟨tp, v1, rfl, htp, rfl, hv⟩ := hy
      obtain ⟨e, he, dv⟩ := dpAll_get hxm hv
      obtain ⟨y, hy⟩ : ∃ y, W.recs[k]? = some y := ⟨_, List.getElem?_eq_getElem (by omega)⟩
      have sA := hs.trans (same_new htp (.tup [.int (0 + (k : Nat)), v1]))
      have dA := dp_same sA dv
      refine ⟨tp, _, rfl, SqT.of upd_same, rfl, _, _, rfl, _, _, rfl, rfl, ?_⟩
      generalize (upd H2 tp (.tup [.int (0 + (k : Nat)), v1])) = H4 at sA dA
      have mk := cg.mOk _ (List.mem_of_getElem? he)
      have off : (∀ f, vR W c f k = 0) → ∃ y7' y8', ([some (.ref ac), some (.ref tc), some (.int (s : Int)), some (.ref sb), some (.int (lvM W c s z i - sN (vR W c (enR s fun x => decide (x = (i : Int)))) k)), some (.int (0 + (i : Int))), some (.int (sN (vR W c (recPart W (.store s i))) k)), some (.int (0 + (k : Nat))), some v1, y9, y10, none] : L2.St) = [some (.ref ac), some (.ref tc), some (.int (s : Int)), some (.ref sb), some (.int (lvM W c s z i - sN (vR W c (enR s fun x => decide (x = (i : Int)))) (k + 1))), some (.int (0 + (i : Int))), some (.int (sN (vR W c (recPart W (.store s i))) (k + 1))), y7', y8', y9, y10, none] ∧ Same H H4 := fun h => by
        refine ⟨some (.int (0 + (k : Nat))), some v1, ?_, sA⟩
        rw [show sN (vR W c (enR s fun x => decide (x = (i : Int)))) (k + 1) = sN (vR W c (enR s fun x => decide (x = (i : Int)))) k from by show _ + _ = _; rw [h, Int.add_zero], show sN (vR W c (recPart W (.store s i))) (k + 1) = sN (vR W c (recPart W (.store s i))) k from by show _ + _ = _; rw [h, Int.add_zero]]
      cases e with
      | non =>
        cases dA
        exact ⟨_, rfl, rfl, _, rfl, iteF' rfl (iteF (off fun f => by unfold vR; rw [hy, he]))⟩
      | opn => exact absurd mk Bool.false_ne_true
      | at_ st p =>
        obtain ⟨m1, m2, m3, m4⟩ := mk
        obtain ⟨j, rfl⟩ : ∃ j : Nat, p = (j : Int) := ⟨p.toNat, by omega⟩
        obtain ⟨pz, hpz⟩ : ∃ pz, W.pass[j]? = some pz := ⟨_, List.getElem?_eq_getElem (by omega)⟩
        obtain ⟨u, us, rfl, hu, hux⟩ := dp_tup dA
        have eux := dp_ints (ns := [st, (j : Int)]) hux
        subst eux
        obtain ⟨ob, od, hob, o1⟩ := rw_rec q2 hy
        have hob' : atI x2 (0 + (k : Int)) = some (.ref ob) := by rw [Int.zero_add]; exact atI_nat hob
        obtain ⟨pb, pd, ts, hpb, c1, c2⟩ := rw_pas q3 hpz
        refine ⟨_, rfl, rfl, _, rfl, iteT' rfl ?_⟩
        refine ⟨_, rfl, ac, CW, dx, _, _, rfl, sA _ _ gw, T.c_World.cl, T.n_World_recordings, lk_World_recordings, _, rfl, t2, x2, _, _, rfl, rfl, Same.tup sA p2, hob', ob, CR, od, _, _, rfl, sA _ _ o1, T.c_Recording.cl, T.n_Recording_satellite, lk_Recording_satellite, _, rfl, rfl, _, rfl, ite2 (fun k0 => ?_) (fun k0 => ?_)⟩
        · have k0 := of_decide_eq_true ((int_dec y.sat s).symm.trans k0)
          have eU : sN (vR W c (recPart W (.store s i))) (k + 1) = sN (vR W c (recPart W (.store s i))) k + if inM (i : Int) st pz.fin = true then y.size else 0 := by
            show _ + _ = _
            rw [vR_at hy he]
            show _ + (if y.sat = s then (if inM (i : Int) st (rwFin W (j : Int)) = true then y.size else 0) else 0) = _
            rw [if_pos k0, rwFin_of hpz]
          have eL : sN (vR W c (enR s fun x => decide (x = (i : Int)))) (k + 1) = sN (vR W c (enR s fun x => decide (x = (i : Int)))) k + if decide (st = (i : Int)) = true then y.energy else 0 := by
            show _ + _ = _
            rw [vR_at hy he]
            show _ + (if y.sat = s then (if decide (st = (i : Int)) = true then y.energy else 0) else 0) = _
            rw [if_pos k0]
          have lvT : st = (i : Int) → lvM W c s z i - sN (vR W c (enR s fun x => decide (x = (i : Int)))) k - y.energy = lvM W c s z i - sN (vR W c (enR s fun x => decide (x = (i : Int)))) (k + 1) := fun a => by
            rw [eL, decide_eq_true a, if_pos rfl, Int.sub_sub]
          have lvF : ¬ st = (i : Int) → lvM W c s z i - sN (vR W c (enR s fun x => decide (x = (i : Int)))) k = lvM W c s z i - sN (vR W c (enR s fun x => decide (x = (i : Int)))) (k + 1) := fun a => by
            rw [eL, decide_eq_false a, if_neg Bool.false_ne_true, Int.add_zero]
          have usT : st ≤ 0 + (i : Int) → 0 + (i : Int) < pz.fin → sN (vR W c (recPart W (.store s i))) k + y.size = sN (vR W c (recPart W (.store s i))) (k + 1) := fun a b => by
            rw [eU, if_pos (by unfold inM; rw [decide_eq_true (by omega), decide_eq_true (by omega)]; rfl)]
          have usF : ¬ (st ≤ 0 + (i : Int) ∧ 0 + (i : Int) < pz.fin) → sN (vR W c (recPart W (.store s i))) k = sN (vR W c (recPart W (.store s i))) (k + 1) := fun a => by
            rw [eU, if_neg (fun h => by
              unfold inM at h
              rw [Bool.and_eq_true] at h
              have h1 := of_decide_eq_true h.1
              have h2 := of_decide_eq_true h.2
              omega), Int.add_zero]
          have eqT : decide (V.int st = V.int (0 + (i : Int))) = true → st = (i : Int) := fun h => by
            rw [int_decI] at h
            have := of_decide_eq_true h
            omega
          have eqF : ¬ decide (V.int st = V.int (0 + (i : Int))) = true → ¬ st = (i : Int) := fun h e => h (by rw [int_decI]; exact decide_eq_true (by omega))
          refine ⟨_, rfl, u, _, 0, _, rfl, rfl, hu, rfl, _, rfl, _, _, rfl, rfl, _, rfl, ite2 (fun k1 => ?_) (fun k1 => ?_)⟩
          · have k1 : st ≤ 0 + (i : Int) := of_decide_eq_true k1
            refine ⟨_, rfl, ac, CW, dx, _, _, rfl, sA _ _ gw, T.c_World.cl, T.n_World_passes, lk_World_passes, _, rfl, u, _, 1, _, rfl, rfl, hu, rfl, t3, x3, _, _, rfl, rfl, Same.tup sA p3, atI_nat hpb, pb, CP, pd, _, _, rfl, sA _ _ c1, T.c_Pass.cl, T.n_Pass_span, lk_Pass_span, ts, _, 1, _, rfl, rfl, Same.tup sA c2, rfl, _, _, rfl, rfl, _, rfl, ite2 (fun k2 => ?_) (fun k2 => ?_)⟩
            · have k2 : 0 + (i : Int) < pz.fin := of_decide_eq_true k2
              refine ⟨_, rfl, _, rfl, ac, CW, dx, _, _, rfl, sA _ _ gw, T.c_World.cl, T.n_World_recordings, lk_World_recordings, _, rfl, t2, x2, _, _, rfl, rfl, Same.tup sA p2, hob', ob, CR, od, _, _, rfl, sA _ _ o1, T.c_Recording.cl, T.n_Recording_size, lk_Recording_size, _, _, rfl, rfl, ?_⟩
              refine ⟨_, rfl, u, _, 0, _, rfl, rfl, hu, rfl, _, rfl, rfl, _, rfl, ite2 (fun k3 => ?_) (fun k3 => ?_)⟩
              · refine ⟨_, rfl, _, rfl, ac, CW, dx, _, _, rfl, sA _ _ gw, T.c_World.cl, T.n_World_recordings, lk_World_recordings, _, rfl, t2, x2, _, _, rfl, rfl, Same.tup sA p2, hob', ob, CR, od, _, _, rfl, sA _ _ o1, T.c_Recording.cl, T.n_Recording_energy, lk_Recording_energy, _, _, rfl, rfl, ?_⟩
                refine ⟨some (.int (0 + (k : Nat))), some (.ref u), ?_, sA⟩
                rw [← lvT (eqT k3), ← usT k1 k2]
                rfl
              · refine ⟨some (.int (0 + (k : Nat))), some (.ref u), ?_, sA⟩
                rw [← lvF (eqF k3), ← usT k1 k2]
                rfl
            · have k2 : ¬ 0 + (i : Int) < pz.fin := fun h => k2 (decide_eq_true h)
              refine ⟨_, rfl, u, _, 0, _, rfl, rfl, hu, rfl, _, rfl, rfl, _, rfl, ite2 (fun k3 => ?_) (fun k3 => ?_)⟩
              · refine ⟨_, rfl, _, rfl, ac, CW, dx, _, _, rfl, sA _ _ gw, T.c_World.cl, T.n_World_recordings, lk_World_recordings, _, rfl, t2, x2, _, _, rfl, rfl, Same.tup sA p2, hob', ob, CR, od, _, _, rfl, sA _ _ o1, T.c_Recording.cl, T.n_Recording_energy, lk_Recording_energy, _, _, rfl, rfl, ?_⟩
                refine ⟨some (.int (0 + (k : Nat))), some (.ref u), ?_, sA⟩
                rw [← lvT (eqT k3), ← usF fun h => k2 h.2]
                rfl
              · refine ⟨some (.int (0 + (k : Nat))), some (.ref u), ?_, sA⟩
                rw [← lvF (eqF k3), ← usF fun h => k2 h.2]
                rfl
          · have k1 : ¬ st ≤ 0 + (i : Int) := fun h => k1 (decide_eq_true h)
            refine ⟨_, rfl, iteF' rfl ?_⟩
            refine ⟨_, rfl, u, _, 0, _, rfl, rfl, hu, rfl, _, rfl, rfl, _, rfl, ite2 (fun k3 => ?_) (fun k3 => ?_)⟩
            · refine ⟨_, rfl, _, rfl, ac, CW, dx, _, _, rfl, sA _ _ gw, T.c_World.cl, T.n_World_recordings, lk_World_recordings, _, rfl, t2, x2, _, _, rfl, rfl, Same.tup sA p2, hob', ob, CR, od, _, _, rfl, sA _ _ o1, T.c_Recording.cl, T.n_Recording_energy, lk_Recording_energy, _, _, rfl, rfl, ?_⟩
              refine ⟨some (.int (0 + (k : Nat))), some (.ref u), ?_, sA⟩
              rw [← lvT (eqT k3), ← usF fun h => k1 h.1]
              rfl
            · refine ⟨some (.int (0 + (k : Nat))), some (.ref u), ?_, sA⟩
              rw [← lvF (eqF k3), ← usF fun h => k1 h.1]
              rfl
        · have k0 : ¬ y.sat = s := fun e => k0 (by rw [e]; exact decide_eq_true rfl)
          refine ⟨some (.int (0 + (k : Nat))), some (.ref u), ?_, sA⟩
          rw [show sN (vR W c (enR s fun x => decide (x = (i : Int)))) (k + 1) = sN (vR W c (enR s fun x => decide (x = (i : Int)))) k from by show _ + _ = _; rw [vR_at hy he]; show _ + (if y.sat = s then (if decide (st = (i : Int)) = true then y.energy else 0) else 0) = _; rw [if_neg k0, Int.add_zero], show sN (vR W c (recPart W (.store s i))) (k + 1) = sN (vR W c (recPart W (.store s i))) k from by show _ + _ = _; rw [vR_at hy he]; show _ + (if y.sat = s then (if inM (i : Int) st (rwFin W (j : Int)) = true then y.size else 0) else 0) = _; rw [if_neg k0, Int.add_zero]]
          rfl
    obtain ⟨y7, y8, rfl, hs⟩ := hI
    rw [show xm.length = W.recs.length by omega]
    refine ⟨_, rfl, tc, _, 1, _, rfl, rfl, Same.tup hs htc, rfl, tt, xt, rfl, Same.tup hs htt, ?_⟩
    have eM : ∀ a : Int, a = lvM W c s z i - sN (vR W c (enR s fun x => decide (x = (i : Int)))) W.recs.length → True := fun _ _ => True.intro
    refine for_it (walk_enumT (xs := xt)) (fun k σ H' => ∃ y9 y10, σ = [some (.ref ac), some (.ref tc), some (.int (s : Int)), some (.ref sb), some (.int (lvM W c s z i - sN (vR W c (enR s fun x => decide (x = (i : Int)))) W.recs.length - sN (vP W c (enP s fun x => decide (x = (i : Int)))) k)), some (.int (0 + (i : Int))), some (.int (usM W c s i)), y7, y8, y9, y10, none] ∧ Same H H') ⟨y9, y10, by rw [show sN (vP W c (enP s fun x => decide (x = (i : Int)))) 0 = 0 from rfl, Int.sub_zero]; rfl, hs⟩ (fun k σ H' _ hI => ?_) (fun k v σ H3 H4 hk hI hy => ?_) (fun σ H3 hI => ?_)
    · obtain ⟨y9, y10, rfl, hs⟩ := hI
      exact Same.tup hs htt
    · obtain ⟨y9, y10, rfl, hs⟩ := hI
      obtain ⟨tp, v1, rfl, htp, rfl, hv⟩ := hy
      obtain ⟨e, he, dv⟩ := dpAll_get hxt hv
      obtain ⟨y, hy⟩ : ∃ y, W.pass[k]? = some y := ⟨_, List.getElem?_eq_getElem (by omega)⟩
      have sA := hs.trans (same_new htp (.tup [.int (0 + (k : Nat)), v1]))
      have dA := dp_same sA dv
      refine ⟨tp, _, rfl, SqT.of upd_same, rfl, _, _, rfl, _, _, rfl, rfl, ?_⟩
      generalize (upd H3 tp (.tup [.int (0 + (k : Nat)), v1])) = H5 at sA dA
      have mk := cg.tOk _ (List.mem_of_getElem? he)
      have stay : vP W c (enP s fun x => decide (x = (i : Int))) k = 0 → lvM W c s z i - sN (vR W c (enR s fun x => decide (x = (i : Int)))) W.recs.length - sN (vP W c (enP s fun x => decide (x = (i : Int)))) k = lvM W c s z i - sN (vR W c (enR s fun x => decide (x = (i : Int)))) W.recs.length - sN (vP W c (enP s fun x => decide (x = (i : Int)))) (k + 1) := fun h => by
        rw [show sN (vP W c (enP s fun x => decide (x = (i : Int)))) (k + 1) = sN (vP W c (enP s fun x => decide (x = (i : Int)))) k from by show _ + _ = _; rw [h, Int.add_zero]]
      cases e with
      | non =>
        cases dA
        exact ⟨_, rfl, rfl, _, rfl, iteF' rfl (iteF ⟨_, _, by rw [← stay (by unfold vP; rw [hy, he])]; rfl, sA⟩)⟩
      | opn => exact absurd mk Bool.false_ne_true
      | ant n =>
        cases dA
        obtain ⟨pb, pd, ts, hpb, c1, c2⟩ := rw_pas q3 hy
        have hpb' : atI x3 (0 + (k : Int)) = some (.ref pb) := by rw [Int.zero_add]; exact atI_nat hpb
        have val : vP W c (enP s fun x => decide (x = (i : Int))) k = if y.sat = s then (if decide (y.first = (i : Int)) = true then y.energy else 0) else 0 := vP_at hy he
        refine ⟨_, rfl, rfl, _, rfl, iteT' rfl ?_⟩
        refine ⟨_, rfl, ac, CW, dx, _, _, rfl, sA _ _ gw, T.c_World.cl, T.n_World_passes, lk_World_passes, _, rfl, t3, x3, _, _, rfl, rfl, Same.tup sA p3, hpb', pb, CP, pd, _, _, rfl, sA _ _ c1, T.c_Pass.cl, T.n_Pass_satellite, lk_Pass_satellite, _, rfl, rfl, _, rfl, ite2 (fun k0 => ?_) (fun k0 => ?_)⟩
        · have k0 := of_decide_eq_true ((int_dec y.sat s).symm.trans k0)
          rw [if_pos k0] at val
          refine ⟨_, rfl, ac, CW, dx, _, _, rfl, sA _ _ gw, T.c_World.cl, T.n_World_passes, lk_World_passes, _, rfl, t3, x3, _, _, rfl, rfl, Same.tup sA p3, hpb', pb, CP, pd, _, _, rfl, sA _ _ c1, T.c_Pass.cl, T.n_Pass_span, lk_Pass_span, ts, _, 0, _, rfl, rfl, Same.tup sA c2, rfl, _, rfl, rfl, _, rfl, ite2 (fun k1 => ?_) (fun k1 => ?_)⟩
          · rw [int_decI] at k1
            have k1 := of_decide_eq_true k1
            rw [decide_eq_true (by omega), if_pos rfl] at val
            refine ⟨_, rfl, _, rfl, ac, CW, dx, _, _, rfl, sA _ _ gw, T.c_World.cl, T.n_World_passes, lk_World_passes, _, rfl, t3, x3, _, _, rfl, rfl, Same.tup sA p3, hpb', pb, CP, pd, _, _, rfl, sA _ _ c1, T.c_Pass.cl, T.n_Pass_energy, lk_Pass_energy, _, _, rfl, rfl, ?_⟩
            refine ⟨some (.int (0 + (k : Nat))), some (.int n), ?_, sA⟩
            rw [show sN (vP W c (enP s fun x => decide (x = (i : Int)))) (k + 1) = sN (vP W c (enP s fun x => decide (x = (i : Int)))) k + y.energy from by show _ + _ = _; rw [val], ← Int.sub_sub]
            rfl
          · rw [decide_eq_false (fun e => k1 (by rw [int_decI]; exact decide_eq_true (by omega))), if_neg Bool.false_ne_true] at val
            exact ⟨_, _, by rw [← stay val]; rfl, sA⟩
        · have k0 : ¬ y.sat = s := fun e => k0 (by rw [e]; exact decide_eq_true rfl)
          rw [if_neg k0] at val
          exact ⟨_, _, by rw [← stay val]; rfl, sA⟩
    obtain ⟨y9, y10, rfl, hs⟩ := hI
    rw [show xt.length = W.pass.length by omega, Int.sub_sub, show sN (vR W c (enR s fun x => decide (x = (i : Int)))) W.recs.length + sN (vP W c (enP s fun x => decide (x = (i : Int)))) W.pass.length = spM W c s i from rfl]
    refine ⟨_, rfl, _, rfl, sb, CS, sd, _, _, rfl, hs _ _ g1, T.c_Satellite.cl, T.n_Satellite_store, lk_Satellite_store, _, _, rfl, rfl, _, rfl, ite2 (fun k1 => ?_) (fun k1 => ?_)⟩
    · exact iteT (q true _ hs fun h => nomatch h)
    · have k1 : ¬ usM W c s i > z.store := fun h => k1 (decide_eq_true h)
      refine ⟨_, rfl, _, rfl, sb, CS, sd, _, _, rfl, hs _ _ g1, T.c_Satellite.cl, T.n_Satellite_reserve, lk_Satellite_reserve, _, _, rfl, rfl, _, rfl, ite2 (fun k2 => ?_) (fun k2 => ?_)⟩
      · exact q true _ hs fun h => nomatch h
      · have k2 : ¬ lvM W c s z i - spM W c s i < z.reserve := fun h => k2 (decide_eq_true h)
        have hl2 : LevF W c s z (i + 1) := fun m hm => by
          by_cases e : m = i
          · rw [e]
            exact ⟨by omega, by omega⟩
          · exact hl m (by omega)
        refine ⟨_, rfl, sb, CS, sd, _, _, rfl, hs _ _ g1, T.c_Satellite.cl, T.n_Satellite_light, lk_Satellite_light, tl, rfl, ⟨_, Same.tup hs g2⟩, fun D hD => lc_tup (K := K) (a := tl) (xs := ls) (fun k H' => Same H3 H' ∧ H' D = some (.lst (List.replicate ((z.light.take k).filter (hasM (i : Int))).length (V.int 1)))) ⟨same_new hD _, upd_same⟩ (fun k H' _ h => Same.tup (hs.trans h.1) g2) (fun k x H4 hx hI => ?_) (fun H4 hI => ?_)⟩
        · obtain ⟨hs2, hDD⟩ := hI
          obtain ⟨y, hy, u, rfl, hu⟩ := paired_at g3 hx
          have hu2 := Same.tup (hs.trans hs2) hu
          have lk := paired_len g3
          have kl : k < ls.length := (List.getElem?_eq_some_iff.mp hx).1
          have fl := List.length_filter_le (hasM (i : Int)) (z.light.take k)
          rw [List.length_take] at fl
          have tk : (z.light.take (k + 1)).filter (hasM (i : Int)) = (z.light.take k).filter (hasM (i : Int)) ++ if hasM (i : Int) y = true then [y] else [] := by
            rw [List.take_add_one, hy, Option.toList_some, List.filter_append, List.filter_cons, List.filter_nil]
          refine ⟨rfl, _, rfl, u, _, 0, _, rfl, rfl, hu2, rfl, _, rfl, _, _, rfl, rfl, _, rfl, ite2 (fun k3 => ?_) (fun k3 => ?_)⟩
          · have k3 : y.1 ≤ 0 + (i : Int) := of_decide_eq_true k3
            refine ⟨_, rfl, u, _, 1, _, rfl, rfl, hu2, rfl, _, _, rfl, rfl, _, rfl, ite2 (fun k4 => ?_) (fun k4 => ?_)⟩
            · have k4 : 0 + (i : Int) < y.2 := of_decide_eq_true k4
              refine ⟨_, hDD, by rw [List.length_replicate]; exact small1000 (by omega), same_at hD hs2 _, ?_⟩
              rw [upd_same, tk, if_pos (by unfold hasM; rw [decide_eq_true (by omega), decide_eq_true (by omega)]; rfl), List.length_append, show ([y] : List (Int × Int)).length = 1 from rfl, List.replicate_succ']
            · have k4 : ¬ 0 + (i : Int) < y.2 := fun h => k4 (decide_eq_true h)
              rw [tk, if_neg (by unfold hasM; rw [decide_eq_false (show ¬ (i : Int) < y.2 by omega), Bool.and_false]; exact Bool.false_ne_true), List.append_nil]
              exact ⟨hs2, hDD⟩
          · have k3 : ¬ y.1 ≤ 0 + (i : Int) := fun h => k3 (decide_eq_true h)
            refine ⟨_, rfl, iteF' rfl ?_⟩
            rw [tk, if_neg (by unfold hasM; rw [decide_eq_false (show ¬ y.1 ≤ (i : Int) by omega), Bool.false_and]; exact Bool.false_ne_true), List.append_nil]
            exact ⟨hs2, hDD⟩
        · obtain ⟨hs2, hDD⟩ := hI
          rw [show ls.length = z.light.length from paired_len g3, List.take_length] at hDD
          have one := (any_one (m := (i : Int)) zok.light).2
          have hsA := hs.trans hs2
          refine ⟨D, _, rfl, .inl (SqL.of hDD), _, _, rfl, rfl, _, rfl, ite2 (fun k5 => ?_) (fun k5 => ?_)⟩
          · have k5 := of_decide_eq_true k5
            rw [List.length_replicate] at k5
            have ea : z.light.any (hasM (i : Int)) = true := by
              by_cases a : z.light.any (hasM (i : Int)) = true
              · exact a
              · rw [if_neg a] at one
                omega
            refine ⟨_, rfl, sb, CS, sd, _, _, rfl, hsA _ _ g1, T.c_Satellite.cl, T.n_Satellite_battery, lk_Satellite_battery, _, rfl, _, rfl, sb, CS, sd, _, _, rfl, hsA _ _ g1, T.c_Satellite.cl, T.n_Satellite_charge, lk_Satellite_charge, _, _, rfl, rfl, ?_⟩
            refine ⟨_, _, rfl, some (.int (0 + (i : Int))), some (.int (usM W c s i)), y7, y8, y9, y10, ?_, hsA, hl2⟩
            rw [show lvM W c s z (i + 1) = (if lvM W c s z i - spM W c s i + z.charge < z.battery then lvM W c s z i - spM W c s i + z.charge else z.battery) from if_pos ea]
            rfl
          · have k5 : ¬ ((List.replicate ((z.light.filter (hasM (i : Int))).length) (V.int 1)).length : Int) > 0 := fun h => k5 (decide_eq_true h)
            rw [List.length_replicate] at k5
            have ea : ¬ z.light.any (hasM (i : Int)) = true := fun a => by
              rw [if_pos a] at one
              omega
            refine ⟨some (.int (0 + (i : Int))), some (.int (usM W c s i)), y7, y8, y9, y10, ?_, hsA, hl2⟩
            rw [show lvM W c s z (i + 1) = lvM W c s z i - spM W c s i from if_neg ea]
  · obtain ⟨y5, y6, y7, y8, y9, y10, rfl, hs, hl⟩ := hI
    exact q false _ hs fun _ => hl
end
end DP
namespace DP
open PySem PySem.Spec PyProof.Rows L2
abbrev s__law_passes_broken : Stmt := topS 68
theorem sc__law_passes_broken : FnScope ["world", "plan", "p", "antenna", "station", "sizes", "q", "r", "entry"] ["world", "plan"] (defScope s__law_passes_broken) := ⟨rfl, rfl, rfl, by decide +kernel, rfl, by decide +kernel, by decide +kernel⟩
def szA (W : WorldD) (c : CaseD) (p : Nat) (k : Nat) : List Int := match W.recs[k]?, c.made[k]? with
  | some z, some (.at_ _ q) => if q = (p : Int) then [z.size] else []
  | _, _ => []
theorem szA_len (W : WorldD) (c : CaseD) (p k : Nat) : (szA W c p k).length ≤ 1 := by
  unfold szA
  split
  · split <;> simp
  · simp
theorem szA_sum (W : WorldD) (c : CaseD) (p n : Nat) : ((List.range n).flatMap (szA W c p)).sum = sN (vR W c (recPart W (.room p))) n := by
  rw [sum_rgf]
  refine sN_eq fun k _ => ?_
  unfold szA
  rcases vR_cases W c k with ⟨z, st, q, hz, he⟩ | h0
  · rw [vR_at hz he, hz, he]
    show (if q = (p : Int) then [z.size] else []).sum = if q = (p : Int) then z.size else 0
    split
    · exact Int.add_zero _
    · rfl
  · rw [h0]
    split
    · rename_i z s q hz he
      have := h0 fun _ _ _ => 1
      rw [vR_at hz he] at this
      cases this
    · rfl
section
variable {P : Program} {w : World} {K : PySem.W.Frag} {mg : Str → Option Value} {base : Heap} {CL CS CT CR CP CW aS aR fS fT fR fP : Addr}
def spPasX (K : PySem.W.Frag) (CS CT CR CP CW : Addr) : Sp := fun vs H Q _ => ∃ (ac : Addr) (v : V) (W : WorldD) (c : CaseD), vs = [.ref ac, v] ∧ WorldOk W ∧ WorldAt K CS CT CR CP CW H ac W ∧ CaseG W false c ∧ Dp K H v (casePy c) ∧
  ∀ (b : Bool) H', Same H H' → (b = false → ∀ (p : Nat) (z : PasD) (n : Int) (t : StaD), W.pass[p]? = some z → c.taken[p]? = some (.ant n) → W.stas[z.sta]? = some t → PasK W c p z n t) → Q (.bl b) H'
set_option maxHeartbeats 8000000 in
theorem d_pasX (T : TxtW K mg CL CS CT CR CP CW aS aR fS fT fR fP) (D_law_meet : DefOk P w K mg base CX0 1 "_law_meet" ["one", "other", "more"] (spMeetX K)) (A : At K mg "_law_passes_broken" s__law_passes_broken ["world", "plan"]) : DefOk P w K mg base CX0 2 "_law_passes_broken" ["world", "plan"] (spPasX K CS CT CR CP CW) := by
  have B := T.L.B
  refine A.ok sc__law_passes_broken (fun vs H Q E h => ?_) (fun f cdv A outer s0 H vs Q E hr h => ?_)
  · obtain ⟨ac, v, W, c, rfl, _⟩ := h
    rfl
  obtain ⟨ac, v, W, c, rfl, wok, hW, cg, hc, q⟩ := h
  obtain ⟨tc, tm, tt, xm, xt, rfl, htc, hm, htt, hxm, hxt, lm, lt⟩ := case_two hc
  obtain ⟨dx, t0, t1, t2, t3, x0, x1, x2, x3, gw, p0, q0, p1, q1, p2, q2, p3, q3⟩ := hW.ex
  have hh := wok.horizon
  have nM := cg.nM
  have nT := cg.nT
  have nR := wok.nRecs
  have nP := wok.nPass
  refine ⟨_, pss_cons (ps_for PassesOwn.never rfl (pi_enumT (by rfl) B.enumerate (pa_cons (pe_ix ix_tup (pv 1) pe_int (fun _ _ => rfl)) pa_nil)) (pg_tup (by rfl) (pgs_cons (pg_name (i := 2) sc__law_passes_broken.nd rfl (Or.inr rfl)) (pgs_cons (pg_name (i := 3) sc__law_passes_broken.nd rfl (Or.inl rfl)) (pgs_nil))))
      (pss_one (ps_if (pt_cmpR op_notN (pv 3) pe_non (nomark _))
          (pss_cons (ps_set (i := 4) sc__law_passes_broken.nd rfl (Or.inl rfl) (pe_ix ix_tup (pe_fld (pv 0) rfl) (pe_fld (pe_ix ix_tup (pe_fld (pv 0) rfl) (pv 2) (fun _ _ => rfl)) rfl) (fun _ _ => rfl)))
          (pss_cons (ps_setLc (own := [("r", 7), ("entry", 8)]) (i := 5) rfl sc__law_passes_broken.nd rfl rfl (sw_true rfl rfl rfl (by decide +kernel)) (pi_enumT (by rfl) B.enumerate (pa_cons (pe_ix ix_tup (pv 1) pe_int (fun _ _ => rfl)) pa_nil)) (blkOk_by (own := [("r", 7), ("entry", 8)]) (N := ["world", "plan", "p", "antenna", "station", "sizes", "q", "r", "entry"]) (sc := defScope s__law_passes_broken) (by decide +kernel)) (fun _ _ _ _ _ => pg_tupK (K := K) (n := 2) rfl (by rfl) (pgs_cons (pg_name (i := 7) sc__law_passes_broken.nd rfl (Or.inl rfl)) (pgs_cons (pg_name (i := 8) sc__law_passes_broken.nd rfl (Or.inl rfl)) (pgs_nil)))) (fun _ _ _ _ _ => pts_one (PW.pt (pw_and (pt_cmpR op_notN (pv 8) pe_non (nomark _)) (pw_and1 (pt_cmpR op_eq (pe_ix (ix_tupK (K := K) rfl) (pv 8) pe_int (fun _ _ => rfl)) (pv 2) (nomark _)))))) (fun _ _ _ _ _ => (pe_fldK (K := K) rfl (pe_ix (ix_tupK (K := K) rfl) (pe_fldK (K := K) rfl (pv 0) rfl) (pv 7) (fun _ _ => rfl)) rfl)))
          (pss_cons (ps_if (PW.pt (pw_or (pt_cmpR op_lt (pv 3) pe_int (nomark _)) (pw_or (pt_cmpR op_ge (pv 3) (pe_fld (pv 4) rfl) (nomark _)) (pw_or1 (pt_cmpR op_gt (pe_callB (cr_sum rfl) (by rfl) B.sum (by decide +kernel) (pa_cons (pv 5) pa_nil)) (pe_fld (pe_ix ix_tup (pe_fld (pv 0) rfl) (pv 2) (fun _ _ => rfl)) rfl) (nomark _))))))
              (pss_one (ps_ret pe_bl))
              (pss_nil))
          (pss_one (ps_for PassesOwn.never rfl (pi_range1 (by rfl) B.range (pa_cons (pv 2) pa_nil)) (pg_name (i := 6) sc__law_passes_broken.nd rfl (Or.inl rfl))
              (pss_one (ps_if (PW.pt (pw_and (pt_cmpR op_eq (pe_ix ix_tup (pe_ix ix_tup (pv 1) pe_int (fun _ _ => rfl)) (pv 6) (fun _ _ => rfl)) (pv 3) (nomark _)) (pw_and1 (pt_cmpR op_eq (pe_fld (pe_ix ix_tup (pe_fld (pv 0) rfl) (pv 6) (fun _ _ => rfl)) rfl) (pe_fld (pe_ix ix_tup (pe_fld (pv 0) rfl) (pv 2) (fun _ _ => rfl)) rfl) (nomark _)))))
                  (pss_one (ps_if (pt_val (pe_f D_law_meet (hr.mono (by omega)) pass0 (pa_cons (pe_fld (pe_ix ix_tup (pe_fld (pv 0) rfl) (pv 6) (fun _ _ => rfl)) rfl) (pa_cons (pe_fld (pe_ix ix_tup (pe_fld (pv 0) rfl) (pv 2) (fun _ _ => rfl)) rfl) (pa_cons (pe_fld (pv 4) rfl) pa_nil)))))
                      (pss_one (ps_ret pe_bl))
                      (pss_nil)))
                  (pss_nil))))))))
          (pss_nil))))
  (pss_one (ps_ret pe_bl))
    , ?_⟩
  refine ⟨_, rfl, tc, _, 1, _, rfl, rfl, htc, rfl, tt, xt, rfl, htt, ?_⟩
  refine for_it (walk_enumT (xs := xt)) (fun i σ H' => ∃ y2 y3 y4 y5 y6, σ = [some (.ref ac), some (.ref tc), y2, y3, y4, y5, y6, none, none] ∧ Same H H' ∧ ∀ (p : Nat) (z : PasD) (n : Int) (t : StaD), p < i → W.pass[p]? = some z → c.taken[p]? = some (.ant n) → W.stas[z.sta]? = some t → PasK W c p z n t)
    ⟨none, none, none, none, none, rfl, Same.refl _, fun p _ _ _ hp => absurd hp (Nat.not_lt_zero _)⟩ (fun i σ H' _ hI => ?_) (fun i v σ H2 H3 hi hI hy => ?_) (fun σ H2 hI => ?_)
  · obtain ⟨y2, y3, y4, y5, y6, rfl, hs, _⟩ := hI
    exact Same.tup hs htt
  · obtain ⟨y2, y3, y4, y5, y6, rfl, hs, hk⟩ := hI
    obtain ⟨tp, v1, rfl, htp, rfl, hv⟩ := hy
    obtain ⟨e, he, dv⟩ := dpAll_get hxt hv
    obtain ⟨z, hz⟩ : ∃ z, W.pass[i]? = some z := ⟨_, List.getElem?_eq_getElem (by omega)⟩
    have zok := wok.pass z (List.mem_of_getElem? hz)
    have sA := hs.trans (same_new htp (.tup [.int (0 + (i : Nat)), v1]))
    have dA := dp_same sA dv
    refine ⟨tp, _, rfl, SqT.of upd_same, rfl, _, _, rfl, _, _, rfl, rfl, ?_⟩
    generalize (upd H2 tp (.tup [.int (0 + (i : Nat)), v1])) = H4 at sA dA
    have mk := cg.tOk _ (List.mem_of_getElem? he)
    cases e with
    | non =>
      cases dA
      refine ⟨_, rfl, rfl, _, rfl, iteF' rfl ⟨_, _, _, _, _, rfl, sA, fun p z n t hp hz hn ht => ?_⟩⟩
      by_cases e : p = i
      · subst e
        rw [he] at hn
        cases hn
      · exact hk p z n t (by omega) hz hn ht
    | opn => exact absurd mk Bool.false_ne_true
    | ant n =>
      cases dA
      obtain ⟨pb, pd, ts, hpb, c1, c2⟩ := rw_pas q3 hz
      have hpb' : atI x3 (0 + (i : Int)) = some (.ref pb) := by rw [Int.zero_add]; exact atI_nat hpb
      obtain ⟨t, ht⟩ : ∃ t, W.stas[z.sta]? = some t := ⟨_, List.getElem?_eq_getElem zok.sta⟩
      obtain ⟨tb, td, htb, k1⟩ := rw_sta q1 ht
      refine ⟨_, rfl, rfl, _, rfl, iteT' rfl ?_⟩
      refine ⟨_, rfl, ac, CW, dx, _, _, rfl, sA _ _ gw, T.c_World.cl, T.n_World_stations, lk_World_stations, _, rfl, ac, CW, dx, _, _, rfl, sA _ _ gw, T.c_World.cl, T.n_World_passes, lk_World_passes, _, rfl, t3, x3, _, _, rfl, rfl, Same.tup sA p3, hpb', pb, CP, pd, _, _, rfl, sA _ _ c1, T.c_Pass.cl, T.n_Pass_station, lk_Pass_station, t1, x1, (z.sta : Int), _, rfl, rfl, Same.tup sA p1, atI_nat htb, ?_⟩
      refine ⟨_, rfl, tc, _, 0, _, rfl, rfl, Same.tup sA htc, rfl, tm, _, rfl, Same.tup sA hm, fun D hD => lc_it (walk_enumT (K := K) (a := tm) (k := 0) (xs := xm)) (fun k H' => Same H4 H' ∧ H' D = some (.lst (((List.range k).flatMap (szA W c i)).map V.int))) ⟨same_new hD _, upd_same⟩ (fun k H' _ hI => Same.tup (sA.trans hI.1) hm) (fun k x H5 H6 hki hI hy => ?_) (fun H5 hI => ?_)⟩
      · obtain ⟨h5, hDD⟩ := hI
        obtain ⟨tq, v2, rfl, htq, rfl, hv2⟩ := hy
        obtain ⟨e2, he2, dv2⟩ := dpAll_get hxm hv2
        obtain ⟨y, hy⟩ : ∃ y, W.recs[k]? = some y := ⟨_, List.getElem?_eq_getElem (by omega)⟩
        have sT := same_new htq (.tup [.int (0 + (k : Nat)), v2])
        have s6 := h5.trans sT
        have sB := sA.trans s6
        have dB := dp_same sB dv2
        have fl := rgf_len (szA_len W c i) k
        have hDB := sT _ _ hDD
        refine ⟨tq, _, rfl, SqT.of upd_same, rfl, _, _, rfl, _, _, rfl, rfl, rfl, ?_⟩
        generalize (upd H5 tq (.tup [.int (0 + (k : Nat)), v2])) = H7 at s6 sB dB hDB
        have mk2 := cg.mOk _ (List.mem_of_getElem? he2)
        have stop : szA W c i k = [] → Same H4 H7 ∧ H7 D = some (.lst (((List.range (k + 1)).flatMap (szA W c i)).map V.int)) := fun e0 => by
          rw [rgf_succ, e0, List.append_nil]
          exact ⟨s6, hDB⟩
        cases e2 with
        | non =>
          cases dB
          exact ⟨_, rfl, rfl, _, rfl, iteF' rfl (iteF (stop (by unfold szA; rw [hy, he2])))⟩
        | opn => exact absurd mk2 Bool.false_ne_true
        | at_ st p =>
          obtain ⟨u, us, rfl, hu, hux⟩ := dp_tup dB
          have eux := dp_ints (ns := [st, p]) hux
          subst eux
          obtain ⟨ob, od, hob, o1⟩ := rw_rec q2 hy
          have hob' : atI x2 (0 + (k : Int)) = some (.ref ob) := by rw [Int.zero_add]; exact atI_nat hob
          refine ⟨_, rfl, rfl, _, rfl, iteT' rfl ?_⟩
          refine ⟨_, rfl, u, _, 1, _, rfl, rfl, hu, rfl, _, rfl, rfl, _, rfl, ite2 (fun k3 => ?_) (fun k3 => ?_)⟩
          · rw [int_decI] at k3
            have k3 := of_decide_eq_true k3
            refine ⟨_, rfl, ac, CW, dx, _, _, rfl, sB _ _ gw, T.c_World.cl, T.n_World_recordings, lk_World_recordings, _, rfl, t2, x2, _, _, rfl, rfl, Same.tup sB p2, hob', ob, CR, od, _, _, rfl, sB _ _ o1, T.c_Recording.cl, T.n_Recording_size, lk_Recording_size, ?_⟩
            refine ⟨_, hDB, by rw [List.length_map]; exact small1000 (by omega), same_at hD s6 _, ?_⟩
            rw [upd_same, rgf_succ, show szA W c i k = [y.size] from by unfold szA; rw [hy, he2]; exact if_pos (by omega), List.map_append]
            rfl
          · have k3 : ¬ p = (i : Int) := fun e => k3 (by rw [int_decI]; exact decide_eq_true (by omega))
            exact stop (by unfold szA; rw [hy, he2]; exact if_neg k3)
      obtain ⟨h5, hDD⟩ := hI
      have sB := sA.trans h5
      rw [show xm.length = W.recs.length by omega] at hDD
      refine ⟨_, rfl, _, _, rfl, rfl, _, rfl, ite2 (fun a1 => iteT (q true _ sB fun h => nomatch h)) (fun a1 => ?_)⟩
      have a1 : ¬ n < 0 := fun h => a1 (decide_eq_true h)
      refine ⟨_, rfl, _, rfl, tb, CT, td, _, _, rfl, sB _ _ k1, T.c_Station.cl, T.n_Station_antennas, lk_Station_antennas, _, _, rfl, rfl, _, rfl, ite2 (fun a2 => (q true _ sB fun h => nomatch h)) (fun a2 => ?_)⟩
      have a2 : ¬ n ≥ t.antennas := fun h => a2 (decide_eq_true h)
      refine ⟨_, rfl, D, (List.range W.recs.length).flatMap (szA W c i), rfl, SqL.of hDD, _, rfl, ac, CW, dx, _, _, rfl, sB _ _ gw, T.c_World.cl, T.n_World_passes, lk_World_passes, _, rfl, t3, x3, _, _, rfl, rfl, Same.tup sB p3, hpb', pb, CP, pd, _, _, rfl, sB _ _ c1, T.c_Pass.cl, T.n_Pass_room, lk_Pass_room, _, _, rfl, rfl, _, rfl, ite2 (fun a3 => q true _ sB fun h => nomatch h) (fun a3 => ?_)⟩
      have a3 : ¬ ((List.range W.recs.length).flatMap (szA W c i)).sum > z.room := fun h => a3 (decide_eq_true h)
      rw [szA_sum] at a3
      refine ⟨_, rfl, (i : Int), by rw [Int.zero_add], by omega, by omega, ?_⟩
      refine for_range (lo := 0) (n := (i : Int).toNat) (fun j σ H' => ∃ y6, σ = [some (.ref ac), some (.ref tc), some (.int (0 + (i : Int))), some (.int n), some (.ref tb), some (.ref D), y6, none, none] ∧ Same H H' ∧ ∀ (k : Nat) (y : PasD), k < j → W.pass[k]? = some y → c.taken[k]? = some (.ant n) → y.sta = z.sta → meetX (y.first, y.fin) (z.first, z.fin) t.turn = false)
        ⟨y6, rfl, sB, fun k y hk => absurd hk (Nat.not_lt_zero _)⟩ (fun j σ H6 hj hI => ?_) (fun σ H6 hI => ?_)
      · obtain ⟨y6, rfl, h6, hm6⟩ := hI
        obtain ⟨e3, he3⟩ : ∃ e, c.taken[j]? = some e := ⟨_, List.getElem?_eq_getElem (by omega)⟩
        obtain ⟨y, hy⟩ : ∃ y, W.pass[j]? = some y := ⟨_, List.getElem?_eq_getElem (by omega)⟩
        obtain ⟨v3, hv3, dv3⟩ := dpAll_get2 hxt he3
        obtain ⟨qb, qd, tq, hqb, d1, d2⟩ := rw_pas q3 hy
        have hqb' : atI x3 (0 + (j : Int)) = some (.ref qb) := by rw [Int.zero_add]; exact atI_nat hqb
        have hv3' : atI xt (0 + (j : Int)) = some v3 := by rw [Int.zero_add]; exact atI_nat hv3
        have nx : (c.taken[j]? = some (.ant n) → y.sta = z.sta → meetX (y.first, y.fin) (z.first, z.fin) t.turn = false) → ∀ (k : Nat) (y : PasD), k < j + 1 → W.pass[k]? = some y → c.taken[k]? = some (.ant n) → y.sta = z.sta → meetX (y.first, y.fin) (z.first, z.fin) t.turn = false := fun h k y2 hk hy2 hn hs => by
          by_cases e : k = j
          · subst e
            rw [hy] at hy2
            cases hy2
            exact h hn hs
          · exact hm6 k y2 (by omega) hy2 hn hs
        refine ⟨_, rfl, tc, _, 1, _, rfl, rfl, Same.tup h6 htc, rfl, _, rfl, tt, xt, _, _, rfl, rfl, Same.tup h6 htt, hv3', _, rfl, ?_⟩
        have mk3 := cg.tOk _ (List.mem_of_getElem? he3)
        cases e3 with
        | non =>
          cases dv3
          exact ⟨rfl, _, rfl, iteF' rfl (iteF ⟨some (.int (0 + (j : Int))), rfl, h6, nx fun h => by rw [he3] at h; cases h⟩)⟩
        | opn => exact absurd mk3 Bool.false_ne_true
        | ant n3 =>
          cases dv3
          refine ⟨rfl, _, rfl, ite2 (fun b1 => ?_) (fun b1 => ?_)⟩
          · refine ⟨_, rfl, ac, CW, dx, _, _, rfl, h6 _ _ gw, T.c_World.cl, T.n_World_passes, lk_World_passes, _, rfl, t3, x3, _, _, rfl, rfl, Same.tup h6 p3, hqb', qb, CP, qd, _, _, rfl, h6 _ _ d1, T.c_Pass.cl, T.n_Pass_station, lk_Pass_station, _, rfl, ac, CW, dx, _, _, rfl, h6 _ _ gw, T.c_World.cl, T.n_World_passes, lk_World_passes, _, rfl, t3, x3, _, _, rfl, rfl, Same.tup h6 p3, hpb', pb, CP, pd, _, _, rfl, h6 _ _ c1, T.c_Pass.cl, T.n_Pass_station, lk_Pass_station, rfl, _, rfl, ite2 (fun b2 => ?_) (fun b2 => ?_)⟩
            · refine ⟨_, rfl, ac, CW, dx, _, _, rfl, h6 _ _ gw, T.c_World.cl, T.n_World_passes, lk_World_passes, _, rfl, t3, x3, _, _, rfl, rfl, Same.tup h6 p3, hqb', qb, CP, qd, _, _, rfl, h6 _ _ d1, T.c_Pass.cl, T.n_Pass_span, lk_Pass_span, _, rfl, ac, CW, dx, _, _, rfl, h6 _ _ gw, T.c_World.cl, T.n_World_passes, lk_World_passes, _, rfl, t3, x3, _, _, rfl, rfl, Same.tup h6 p3, hpb', pb, CP, pd, _, _, rfl, h6 _ _ c1, T.c_Pass.cl, T.n_Pass_span, lk_Pass_span, _, rfl, tb, CT, td, _, _, rfl, h6 _ _ k1, T.c_Station.cl, T.n_Station_turn, lk_Station_turn, tq, ts, (y.first, y.fin), (z.first, z.fin), t.turn, rfl, Same.tup h6 d2, Same.tup h6 c2, _, rfl, ite2 (fun b3 => ?_) (fun b3 => ?_)⟩
              · exact q true _ h6 fun h => nomatch h
              · exact ⟨some (.int (0 + (j : Int))), rfl, h6, nx fun _ _ => Bool.eq_false_iff.mpr b3⟩
            · refine ⟨some (.int (0 + (j : Int))), rfl, h6, nx fun _ h => absurd ((int_dec y.sta z.sta).trans (decide_eq_true h)) b2⟩
          · refine iteF ⟨some (.int (0 + (j : Int))), rfl, h6, nx fun h => ?_⟩
            rw [he3] at h
            cases h
            exact absurd (decide_eq_true rfl) b1
      · obtain ⟨y6, rfl, h6, hm6⟩ := hI
        refine ⟨_, _, _, _, _, rfl, h6, fun p z2 n2 t2 hp hz2 hn2 ht2 => ?_⟩
        by_cases e : p = i
        · subst e
          rw [he] at hn2
          cases hn2
          rw [hz] at hz2
          cases hz2
          rw [ht] at ht2
          cases ht2
          exact ⟨by omega, by omega, by omega, fun k y hk => hm6 k y (by omega)⟩
        · exact hk p z2 n2 t2 (by omega) hz2 hn2 ht2
  · obtain ⟨y2, y3, y4, y5, y6, rfl, hs, hk⟩ := hI
    exact q false _ hs fun _ p z n t hz hn ht => hk p z n t (by rw [lt, nT]; exact (List.getElem?_eq_some_iff.mp hz).1) hz hn ht
end
end DP
namespace DP
open PySem PySem.Spec PyProof.Rows L2
abbrev s__law_breaks : Stmt := topS 69
theorem sc__law_breaks : FnScope ["world", "plan", "r", "entry", "s", "satellite", "busy", "k", "at"] ["world", "plan"] (defScope s__law_breaks) := ⟨rfl, rfl, rfl, by decide +kernel, rfl, by decide +kernel, by decide +kernel⟩
theorem eqv_spanX (a b : Int × Int) : PyData.eqv (spanPy a) (spanPy b) = decide (a = b) := by
  show (a.1 == b.1 && (a.2 == b.2 && true)) = _
  rw [Bool.and_true]
  obtain ⟨a1, a2⟩ := a
  obtain ⟨b1, b2⟩ := b
  by_cases h1 : a1 = b1
  · by_cases h2 : a2 = b2
    · subst h1 h2; simp
    · simp [h2]
  · simp [h1]
theorem shp_spansX (l : List (Int × Int)) : SeqAt.shaped (.list (l.map spanPy)) = true := by
  have h1 := lay_map (f := spanPy) (fun _ => rfl) l
  have h2 := depth_map (f := spanPy) (n := 1) (fun _ => Nat.le_refl _) l
  unfold SeqAt.shaped
  rw [show (PyData.list (l.map spanPy)).canLay0 = PyData.canLayAll0 (l.map spanPy) from rfl, h1, Bool.true_and]
  refine decide_eq_true ?_
  show PyData.depthAll (l.map spanPy) + 1 ≤ 64
  omega
theorem any_optX {l : List (Int × Int)} {s p : Int} (h : (l.map spanPy).any (fun d => PyData.eqv d (spanPy (s, p))) = true) : (s, p) ∈ l := by
  obtain ⟨d, hd, e⟩ := List.any_eq_true.mp h
  obtain ⟨q, hq, rfl⟩ := List.mem_map.mp hd
  rw [eqv_spanX] at e
  rw [← of_decide_eq_true e]
  exact hq
section
variable {P : Program} {w : World} {K : PySem.W.Frag} {mg : Str → Option Value} {base : Heap} {CL CS CT CR CP CW aS aR fS fT fR fP : Addr}
def spBrkX (K : PySem.W.Frag) (CS CT CR CP CW : Addr) : Sp := fun vs H Q _ => ∃ (ac : Addr) (v : V) (W : WorldD) (c : CaseD), vs = [.ref ac, v] ∧ WorldOk W ∧ WorldAt K CS CT CR CP CW H ac W ∧ CaseG W false c ∧ Dp K H v (casePy c) ∧
  ∀ (b : Bool) H', Same H H' → (b = false → KeptP W c) → Q (.bl b) H'
set_option maxHeartbeats 8000000 in
theorem d_brkX (T : TxtW K mg CL CS CT CR CP CW aS aR fS fT fR fP) (D_law_options : DefOk P w K mg base CX0 1 "_law_options" ["world", "r"] (spOptC K CS CT CR CP CW)) (D_law_meet : DefOk P w K mg base CX0 1 "_law_meet" ["one", "other", "more"] (spMeetX K))
    (D_law_busy : DefOk P w K mg base CX0 1 "_law_busy" ["world", "plan", "s"] (spBusyX K CS CT CR CP CW)) (D_law_levels_broken : DefOk P w K mg base CX0 1 "_law_levels_broken" ["world", "plan", "s"] (spLevX K CS CT CR CP CW)) (D_law_passes_broken : DefOk P w K mg base CX0 2 "_law_passes_broken" ["world", "plan"] (spPasX K CS CT CR CP CW))
    (A : At K mg "_law_breaks" s__law_breaks ["world", "plan"]) : DefOk P w K mg base CX0 3 "_law_breaks" ["world", "plan"] (spBrkX K CS CT CR CP CW) := by
  have B := T.L.B
  refine A.ok sc__law_breaks (fun vs H Q E h => ?_) (fun f cdv A outer s0 H vs Q E hr h => ?_)
  · obtain ⟨ac, v, W, c, rfl, _⟩ := h
    rfl
  obtain ⟨ac, v, W, c, rfl, wok, hW, cg, hc, q⟩ := h
  have hc0 := hc
  obtain ⟨tc, tm, tt, xm, xt, rfl, htc, hm, htt, hxm, hxt, lm, lt⟩ := case_two hc
  obtain ⟨dx, t0, t1, t2, t3, x0, x1, x2, x3, gw, p0, q0, p1, q1, p2, q2, p3, q3⟩ := hW.ex
  have l0 := paired_len q0
  have nM := cg.nM
  have nT := cg.nT
  have nR := wok.nRecs
  have nP := wok.nPass
  refine ⟨_, pss_cons (ps_for PassesOwn.never rfl (pi_enumT (by rfl) B.enumerate (pa_cons (pe_ix ix_tup (pv 1) pe_int (fun _ _ => rfl)) pa_nil)) (pg_tup (by rfl) (pgs_cons (pg_name (i := 2) sc__law_breaks.nd rfl (Or.inl rfl)) (pgs_cons (pg_name (i := 3) sc__law_breaks.nd rfl (Or.inl rfl)) (pgs_nil))))
      (pss_one (ps_if (PW.pt (pw_and (pt_cmpR op_notN (pv 3) pe_non (nomark _)) (pw_and1 (PW.pt (pw_or (pt_cmpR (op_notInD (hu65 hr)) (pv 3) (pe_f D_law_options (hr.mono (by omega)) pass0 (pa_cons (pv 0) (pa_cons (pv 2) pa_nil))) (by rfl)) (pw_or1 (pt_cmpR op_isN (pe_ix ix_tup (pe_ix ix_tup (pv 1) pe_int (fun _ _ => rfl)) (pe_ix ix_tup (pv 3) pe_int (fun _ _ => rfl)) (fun _ _ => rfl)) pe_non (nomark _))))))))
          (pss_one (ps_ret pe_bl))
          (pss_nil))))
  (pss_cons (ps_if (pt_val (pe_f D_law_passes_broken (hr.mono (by omega)) pass0 (pa_cons (pv 0) (pa_cons (pv 1) pa_nil))))
      (pss_one (ps_ret pe_bl))
      (pss_nil))
  (pss_cons (ps_for PassesOwn.never rfl (pi_enumT (by rfl) B.enumerate (pa_cons (pe_fld (pv 0) rfl) pa_nil)) (pg_tup (by rfl) (pgs_cons (pg_name (i := 4) sc__law_breaks.nd rfl (Or.inl rfl)) (pgs_cons (pg_name (i := 5) sc__law_breaks.nd rfl (Or.inl rfl)) (pgs_nil))))
      (pss_cons (ps_set (i := 6) sc__law_breaks.nd rfl (Or.inl rfl) (pe_f D_law_busy (hr.mono (by omega)) pass0 (pa_cons (pv 0) (pa_cons (pv 1) (pa_cons (pv 4) pa_nil)))))
      (pss_cons (ps_for PassesOwn.never rfl (pi_range1 (by rfl) B.range (pa_cons (pe_callB (call_len_seq) (by rfl) B.len (by decide +kernel) (pa_cons (pv 6) pa_nil)) pa_nil)) (pg_name (i := 7) sc__law_breaks.nd rfl (Or.inl rfl))
          (pss_one (ps_for PassesOwn.never rfl (pi_range1 (by rfl) B.range (pa_cons (pv 7) pa_nil)) (pg_name (i := 8) sc__law_breaks.nd rfl (Or.inl rfl))
              (pss_one (ps_if (pt_val (pe_f D_law_meet (hr.mono (by omega)) pass0 (pa_cons (pe_ix ix_list (pv 6) (pv 8) (fun _ _ => rfl)) (pa_cons (pe_ix ix_list (pv 6) (pv 7) (fun _ _ => rfl)) (pa_cons (pe_fld (pv 5) rfl) pa_nil)))))
                  (pss_one (ps_ret pe_bl))
                  (pss_nil))))))
      (pss_one (ps_if (pt_val (pe_f D_law_levels_broken (hr.mono (by omega)) pass0 (pa_cons (pv 0) (pa_cons (pv 1) (pa_cons (pv 4) pa_nil)))))
          (pss_one (ps_ret pe_bl))
          (pss_nil))))))
  (pss_one (ps_ret pe_bl))))
    , ?_⟩
  refine ⟨_, rfl, tc, _, 0, _, rfl, rfl, htc, rfl, tm, xm, rfl, hm, ?_⟩
  refine for_it (walk_enumT (xs := xm)) (fun i σ H' => ∃ y2 y3, σ = [some (.ref ac), some (.ref tc), y2, y3, none, none, none, none, none] ∧ Same H H' ∧ ∀ (k : Nat) (z : RecD) (s p : Int), k < i → W.recs[k]? = some z → c.made[k]? = some (EntM.at_ s p) → (s, p) ∈ optsW W z ∧ ∃ n, c.taken[p.toNat]? = some (.ant n))
    ⟨none, none, rfl, Same.refl _, fun k _ _ _ hk => absurd hk (Nat.not_lt_zero _)⟩ (fun i σ H' _ hI => ?_) (fun i v σ H2 H3 hi hI hy => ?_) (fun σ H2 hI => ?_)
  · obtain ⟨y2, y3, rfl, hs, _⟩ := hI
    exact Same.tup hs hm
  · obtain ⟨y2, y3, rfl, hs, hk⟩ := hI
    obtain ⟨tp, v1, rfl, htp, rfl, hv⟩ := hy
    obtain ⟨e, he, dv⟩ := dpAll_get hxm hv
    obtain ⟨z, hz⟩ : ∃ z, W.recs[i]? = some z := ⟨_, List.getElem?_eq_getElem (by omega)⟩
    have sA := hs.trans (same_new htp (.tup [.int (0 + (i : Nat)), v1]))
    have dA := dp_same sA dv
    refine ⟨tp, _, rfl, SqT.of upd_same, rfl, _, _, rfl, _, _, rfl, rfl, ?_⟩
    generalize (upd H2 tp (.tup [.int (0 + (i : Nat)), v1])) = H4 at sA dA
    have mk := cg.mOk _ (List.mem_of_getElem? he)
    cases e with
    | non =>
      cases dA
      refine ⟨_, rfl, rfl, _, rfl, iteF' rfl (iteF ⟨_, _, rfl, sA, fun k z s p hki hz hn => ?_⟩)⟩
      by_cases e : k = i
      · subst e
        rw [he] at hn
        cases hn
      · exact hk k z s p (by omega) hz hn
    | opn => exact absurd mk Bool.false_ne_true
    | at_ st p =>
      obtain ⟨m1, m2, m3, m4⟩ := mk
      obtain ⟨j, rfl⟩ : ∃ j : Nat, p = (j : Int) := ⟨p.toNat, by omega⟩
      have dA0 := dA
      obtain ⟨u, us, rfl, hu, hux⟩ := dp_tup dA
      have eux := dp_ints (ns := [st, (j : Int)]) hux
      subst eux
      refine ⟨_, rfl, rfl, _, rfl, iteT' rfl ?_⟩
      refine ⟨_, rfl, _, rfl, _, rfl, ac, W, i, z, by rw [Int.zero_add]; rfl, wok, hW.same sA, hz, fun l ls H5 s5 hl0 hl5 hx => ?_⟩
      have sB := sA.trans s5
      refine ⟨spanPy (st, (j : Int)), (optsW W z).map spanPy, dp_same s5 dA0, .lst (SqL.of hl5) (spans_dp hx), shE_M (.at_ st (j : Int)), shp_spansX _, _, rfl, ite2 (fun k1 => ?_) (fun k1 => ?_)⟩
      · exact q true _ sB fun h => nomatch h
      · have mem : (st, (j : Int)) ∈ optsW W z := any_optX (by
          cases x : ((optsW W z).map spanPy).any (fun d => PyData.eqv d (spanPy (st, (j : Int)))) with
          | true => rfl
          | false => exact absurd (by rw [x]; rfl) k1)
        obtain ⟨e3, he3⟩ : ∃ e, c.taken[j]? = some e := ⟨_, List.getElem?_eq_getElem (by omega)⟩
        obtain ⟨v3, hv3, dv3⟩ := dpAll_get2 hxt he3
        refine ⟨_, rfl, tc, _, 1, _, rfl, rfl, Same.tup sB htc, rfl, _, rfl, u, _, 1, _, rfl, rfl, Same.tup s5 hu, rfl, tt, xt, _, _, rfl, rfl, Same.tup sB htt, atI_nat hv3, rfl, ?_⟩
        have mk3 := cg.tOk _ (List.mem_of_getElem? he3)
        cases e3 with
        | non =>
          cases dv3
          exact ⟨_, rfl, iteT' rfl (q true _ sB fun h => nomatch h)⟩
        | opn => exact absurd mk3 Bool.false_ne_true
        | ant n3 =>
          cases dv3
          refine ⟨_, rfl, iteF' rfl ⟨_, _, rfl, sB, fun k z2 s2 p2 hki hz2 hn => ?_⟩⟩
          by_cases e : k = i
          · subst e
            rw [he] at hn
            cases hn
            rw [hz] at hz2
            cases hz2
            exact ⟨mem, n3, by rw [Int.toNat_natCast]; exact he3⟩
          · exact hk k z2 s2 p2 (by omega) hz2 hn
  obtain ⟨y2, y3, rfl, hs, hopt⟩ := hI
  refine ⟨_, rfl, _, rfl, ac, .ref tc, W, c, rfl, wok, hW.same hs, cg, dp_same hs hc0, fun b H3 s3 hb => ⟨_, rfl, ite2 (fun k1 => q true _ (hs.trans s3) fun h => nomatch h) (fun k1 => ?_)⟩⟩
  have hpas := hb (Bool.eq_false_iff.mpr k1)
  have sC := hs.trans s3
  refine ⟨_, rfl, ac, CW, dx, _, _, rfl, sC _ _ gw, T.c_World.cl, T.n_World_satellites, lk_World_satellites, t0, x0, rfl, Same.tup sC p0, ?_⟩
  refine for_it (walk_enumT (xs := x0)) (fun i σ H' => ∃ y4 y5 y6 y7 y8, σ = [some (.ref ac), some (.ref tc), y2, y3, y4, y5, y6, y7, y8] ∧ Same H H' ∧ ∀ (s : Nat) (z : SatD), s < i → W.sats[s]? = some z → (∀ (i j : Nat) (x y : Int × Int), i < j → (busL W c s)[i]? = some x → (busL W c s)[j]? = some y → meetX x y z.settle = false) ∧ LevF W c s z W.horizon.toNat)
    ⟨none, none, none, none, none, rfl, sC, fun k _ hk => absurd hk (Nat.not_lt_zero _)⟩ (fun i σ H' _ hI => ?_) (fun i v σ H4 H5 hi hI hy => ?_) (fun σ H4 hI => ?_)
  · obtain ⟨y4, y5, y6, y7, y8, rfl, hs, _⟩ := hI
    exact Same.tup hs p0
  · obtain ⟨y4, y5, y6, y7, y8, rfl, hs, hk⟩ := hI
    obtain ⟨tp, v1, rfl, htp, rfl, hv⟩ := hy
    obtain ⟨z, hz, sb, sd, tl, ls, rfl, g1, g2, g3⟩ := paired_at q0 hv
    have sA := hs.trans (same_new htp (.tup [.int (0 + (i : Nat)), .ref sb]))
    refine ⟨tp, _, rfl, SqT.of upd_same, rfl, _, _, rfl, _, _, rfl, rfl, ?_⟩
    generalize (upd H4 tp (.tup [.int (0 + (i : Nat)), .ref sb])) = H6 at sA
    refine ⟨_, rfl, _, rfl, _, rfl, ac, .ref tc, W, c, i, by rw [Int.zero_add]; rfl, wok, hW.same sA, cg, dp_same sA hc0, fun D xs H7 s7 hD0 hD hsp => ?_⟩
    have s6 := sA.trans s7
    have lx := paired_len hsp
    have lb : (busL W c i).length ≤ 20 := by
      have a := rgf_len (busR_len W c i) W.recs.length
      have b := rgf_len (busP_len W c i) W.pass.length
      unfold busL
      rw [List.length_append]
      omega
    refine ⟨_, rfl, D, xs, rfl, .inl (SqL.of hD), _, rfl, by omega, by omega, ?_⟩
    refine for_range (lo := 0) (n := (xs.length : Int).toNat) (fun j σ H' => ∃ y7 y8, σ = [some (.ref ac), some (.ref tc), y2, y3, some (.int (0 + (i : Int))), some (.ref sb), some (.ref D), y7, y8] ∧ Same H7 H' ∧ ∀ (a b : Nat) (x y : Int × Int), a < b → b < j → (busL W c i)[a]? = some x → (busL W c i)[b]? = some y → meetX x y z.settle = false)
      ⟨y7, y8, rfl, Same.refl _, fun a b _ _ _ hb => absurd hb (Nat.not_lt_zero _)⟩ (fun j σ H8 hj hI => ?_) (fun σ H8 hI => ?_)
    · obtain ⟨y7, y8, rfl, h8, hm8⟩ := hI
      obtain ⟨xj, hxj⟩ : ∃ x, xs[j]? = some x := ⟨_, List.getElem?_eq_getElem (by omega)⟩
      obtain ⟨yj, hyj, uj, rfl, huj⟩ := paired_at hsp hxj
      have hxj' : atI xs (0 + (j : Int)) = some (.ref uj) := by rw [Int.zero_add]; exact atI_nat hxj
      refine ⟨_, rfl, (j : Int), by rw [Int.zero_add], by omega, by omega, ?_⟩
      refine for_range (lo := 0) (n := (j : Int).toNat) (fun k σ H' => ∃ y8, σ = [some (.ref ac), some (.ref tc), y2, y3, some (.int (0 + (i : Int))), some (.ref sb), some (.ref D), some (.int (0 + (j : Int))), y8] ∧ Same H7 H' ∧ ∀ (a : Nat) (x : Int × Int), a < k → (busL W c i)[a]? = some x → meetX x yj z.settle = false)
        ⟨y8, rfl, h8, fun a _ ha => absurd ha (Nat.not_lt_zero _)⟩ (fun k σ H9 hkj hI => ?_) (fun σ H9 hI => ?_)
      · obtain ⟨y8, rfl, h9, hm9⟩ := hI
        obtain ⟨xk, hxk⟩ : ∃ x, xs[k]? = some x := ⟨_, List.getElem?_eq_getElem (by omega)⟩
        obtain ⟨yk, hyk, uk, rfl, huk⟩ := paired_at hsp hxk
        have hxk' : atI xs (0 + (k : Int)) = some (.ref uk) := by rw [Int.zero_add]; exact atI_nat hxk
        have s9 := s6.trans h9
        refine ⟨_, rfl, _, rfl, D, xs, _, _, rfl, rfl, SqL.of (h9 _ _ hD), hxk', _, rfl, _, rfl, D, xs, _, _, rfl, rfl, SqL.of (h9 _ _ hD), hxj', _, rfl, sb, CS, sd, _, _, rfl, s9 _ _ g1, T.c_Satellite.cl, T.n_Satellite_settle, lk_Satellite_settle, uk, uj, yk, yj, z.settle, rfl, Same.tup h9 huk, Same.tup h9 huj, _, rfl, ite2 (fun b1 => ?_) (fun b1 => ?_)⟩
        · exact q true _ s9 fun h => nomatch h
        · refine ⟨some (.int (0 + (k : Int))), rfl, h9, fun a x ha hx => ?_⟩
          by_cases e : a = k
          · subst e
            rw [hyk] at hx
            cases hx
            exact Bool.eq_false_iff.mpr b1
          · exact hm9 a x (by omega) hx
      · obtain ⟨y8, rfl, h9, hm9⟩ := hI
        refine ⟨_, _, rfl, h9, fun a b x y hab hb hx hy => ?_⟩
        by_cases e : b = j
        · subst e
          rw [hyj] at hy
          cases hy
          exact hm9 a x (by omega) hx
        · exact hm8 a b x y hab (by omega) hx hy
    · obtain ⟨y7, y8, rfl, h8, hm8⟩ := hI
      have s8 := s6.trans h8
      refine ⟨_, rfl, _, rfl, _, rfl, ac, .ref tc, W, c, i, z, by rw [Int.zero_add]; rfl, wok, hW.same s8, cg, dp_same s8 hc0, hz, fun b H9 s9 hb => ⟨_, rfl, ite2 (fun b1 => q true _ (s8.trans s9) fun h => nomatch h) (fun b1 => ?_)⟩⟩
      have hlev := hb (Bool.eq_false_iff.mpr b1)
      refine ⟨some (.int (0 + (i : Int))), some (.ref sb), some (.ref D), y7, y8, rfl, s8.trans s9, fun s z2 hsi hz2 => ?_⟩
      by_cases e : s = i
      · subst e
        rw [hz] at hz2
        cases hz2
        exact ⟨fun a b x y hab hx hy => hm8 a b x y hab (by have := (List.getElem?_eq_some_iff.mp hy).1; omega) hx hy, hlev⟩
      · exact hk s z2 (by omega) hz2
  · obtain ⟨y4, y5, y6, y7, y8, rfl, hs, hk⟩ := hI
    refine q false _ hs fun _ => ⟨cg, fun k z s p hz hn => hopt k z s p ?_ hz hn, hpas, fun s z hz => (hk s z ?_ hz).1, fun s z hz => (hk s z ?_ hz).2⟩
    · rw [lm, nM]
      exact (List.getElem?_eq_some_iff.mp hz).1
    · rw [l0]
      exact (List.getElem?_eq_some_iff.mp hz).1
    · rw [l0]
      exact (List.getElem?_eq_some_iff.mp hz).1
end
end DP
namespace DP
open PySem PySem.Spec PyProof.Rows L2
abbrev s__law_kept : Stmt := topS 70
theorem sc__law_kept : FnScope ["world", "cell", "made", "taken", "numbers", "shift", "k", "r", "options", "option", "antenna", "next_made", "next_taken", "recording", "chance"] ["world", "cell"] (defScope s__law_kept) := ⟨rfl, rfl, rfl, by decide +kernel, rfl, by decide +kernel, by decide +kernel⟩
theorem cutX_to {xs : List V} {i : Nat} (h : i ≤ xs.length) : cutV xs none (some (i : Int)) = xs.take i := by
  unfold cutV
  rw [HT.sIx_none, HT.sIx_nat, List.drop_zero, Nat.sub_zero, Nat.min_eq_left h]
theorem cutX_from {xs : List V} {i : Nat} (h : i ≤ xs.length) : cutV xs (some (i : Int)) none = xs.drop i := by
  unfold cutV
  rw [HT.sIx_none, HT.sIx_nat, Nat.min_eq_left h]
  exact List.take_of_length_le (by rw [List.length_drop]; exact Nat.le_refl _)
theorem dpAll_non {K : PySem.W.Frag} {H : Hp} {α : Type} {f : α → PyData} {a : α} (h : f a = .none) : ∀ n : Nat, DpAll K H (List.replicate n V.non) ((List.replicate n a).map f)
  | 0 => .nil
  | n + 1 => by
    rw [List.replicate_succ, List.replicate_succ, List.map_cons, h]
    exact .cons .non (dpAll_non h n)
theorem dpAll_app {K : PySem.W.Frag} {H : Hp} : ∀ {xs ys : List V} {as bs : List PyData}, DpAll K H xs as → DpAll K H ys bs → DpAll K H (xs ++ ys) (as ++ bs)
  | _, _, _, _, .nil, h => h
  | _, _, _, _, .cons a t, h => .cons a (dpAll_app t h)
theorem dpAll_take {K : PySem.W.Frag} {H : Hp} : ∀ {xs : List V} {as : List PyData} (n : Nat), DpAll K H xs as → DpAll K H (xs.take n) (as.take n)
  | _, _, 0, _ => .nil
  | _, _, n + 1, .nil => .nil
  | _, _, n + 1, .cons a t => .cons a (dpAll_take n t)
theorem dpAll_drop {K : PySem.W.Frag} {H : Hp} : ∀ {xs : List V} {as : List PyData} (n : Nat), DpAll K H xs as → DpAll K H (xs.drop n) (as.drop n)
  | _, _, 0, h => h
  | _, _, n + 1, .nil => .nil
  | _, _, n + 1, .cons a t => dpAll_drop n t
def putAt {α : Type} (l : List α) (i : Nat) (a : α) : List α := l.take i ++ [a] ++ l.drop (i + 1)
theorem putAt_len {α : Type} {l : List α} {i : Nat} {a : α} (h : i < l.length) : (putAt l i a).length = l.length := by
  unfold putAt
  rw [List.length_append, List.length_append, List.length_take, List.length_drop, List.length_singleton]
  omega
theorem putAt_mem {α : Type} {l : List α} {i : Nat} {a x : α} (h : x ∈ putAt l i a) : x ∈ l ∨ x = a := by
  unfold putAt at h
  rcases List.mem_append.mp h with h | h
  · rcases List.mem_append.mp h with h | h
    · exact .inl (List.mem_of_mem_take h)
    · exact .inr (List.mem_singleton.mp h)
  · exact .inl (List.mem_of_mem_drop h)
theorem putAt_dp {K : PySem.W.Frag} {H : Hp} {α : Type} {f : α → PyData} {xs : List V} {l : List α} {i : Nat} {v : V} {a : α} (h : DpAll K H xs (l.map f)) (hv : Dp K H v (f a)) : DpAll K H (xs.take i ++ [v] ++ xs.drop (i + 1)) ((putAt l i a).map f) := by
  unfold putAt
  rw [List.map_append, List.map_append, List.map_take, List.map_drop]
  exact dpAll_app (dpAll_app (dpAll_take i h) (.cons hv .nil)) (dpAll_drop (i + 1) h)
section
variable {P : Program} {w : World} {K : PySem.W.Frag} {mg : Str → Option Value} {base : Heap} {CL CS CT CR CP CW aS aR fS fT fR fP : Addr}
def spKept (K : PySem.W.Frag) (CS CT CR CP CW : Addr) : Sp := fun vs H Q _ => ∃ (ac : Addr) (W : WorldD) (x : Int), vs = [.ref ac, .int x] ∧ CG W ∧ WorldAt K CS CT CR CP CW H ac W ∧ ∀ (v : V) (c : CaseD) (H' : Hp), Same H H' → KeptP W c → Dp K H' v (casePy c) → Q v H'
set_option maxHeartbeats 16000000 in
theorem d_kept (T : TxtW K mg CL CS CT CR CP CW aS aR fS fT fR fP) (D_law_draws : DefOk P w K mg base CX0 1 "_law_draws" ["cell", "count"] spDrawsC) (D_law_options : DefOk P w K mg base CX0 1 "_law_options" ["world", "r"] (spOptC K CS CT CR CP CW))
    (D_law_breaks : DefOk P w K mg base CX0 3 "_law_breaks" ["world", "plan"] (spBrkX K CS CT CR CP CW)) (A : At K mg "_law_kept" s__law_kept ["world", "cell"]) : DefOk P w K mg base CX0 4 "_law_kept" ["world", "cell"] (spKept K CS CT CR CP CW) := by
  have B := T.L.B
  refine A.ok sc__law_kept (fun vs H Q E h => ?_) (fun f cdv A outer s0 H vs Q E hr h => ?_)
  · obtain ⟨ac, W, x, rfl, _⟩ := h
    rfl
  obtain ⟨ac, W, x, rfl, wg, hW, q⟩ := h
  have wok := wg.ok
  obtain ⟨dx, t0, t1, t2, t3, x0, x1, x2, x3, gw, p0, q0, p1, q1, p2, q2, p3, q3⟩ := hW.ex
  have l1 := paired_len q1
  have l2 := paired_len q2
  have l3 := paired_len q3
  have nR := wg.nR
  have nP := wg.nP
  refine ⟨_, pss_cons (ps_setLc (own := [("recording", 13)]) (i := 2) rfl sc__law_kept.nd rfl rfl (sw_true rfl rfl rfl (by decide +kernel)) (pi_tup (pe_fld (pv 0) rfl)) (blkOk_by (own := [("recording", 13)]) (N := ["world", "cell", "made", "taken", "numbers", "shift", "k", "r", "options", "option", "antenna", "next_made", "next_taken", "recording", "chance"]) (sc := defScope s__law_kept) (by decide +kernel)) (fun _ _ _ _ _ => pg_name (i := 13) sc__law_kept.nd rfl (Or.inl rfl)) (fun _ _ _ _ _ => pts_nil) (fun _ _ _ _ _ => pe_non))
  (pss_cons (ps_setLc (own := [("chance", 14)]) (i := 3) rfl sc__law_kept.nd rfl rfl (sw_true rfl rfl rfl (by decide +kernel)) (pi_tup (pe_fld (pv 0) rfl)) (blkOk_by (own := [("chance", 14)]) (N := ["world", "cell", "made", "taken", "numbers", "shift", "k", "r", "options", "option", "antenna", "next_made", "next_taken", "recording", "chance"]) (sc := defScope s__law_kept) (by decide +kernel)) (fun _ _ _ _ _ => pg_name (i := 14) sc__law_kept.nd rfl (Or.inl rfl)) (fun _ _ _ _ _ => pts_nil) (fun _ _ _ _ _ => pe_non))
  (pss_cons (ps_set (i := 4) sc__law_kept.nd rfl (Or.inl rfl) (pe_f D_law_draws (hr.mono (by omega)) pass0 (pa_cons (pv 1) (pa_cons (pe_op op_add (pe_op op_mul pe_int (pe_callB (call_len_seq) (by rfl) B.len (by decide +kernel) (pa_cons (pv 2) pa_nil))) pe_int) pa_nil))))
  (pss_cons (ps_set (i := 5) sc__law_kept.nd rfl (Or.inl rfl) (pe_op op_mod (pe_ix ix_list (pv 4) pe_int (fun _ _ => rfl)) (pe_callB (call_max2 rfl) (by rfl) B.max (by decide +kernel) (pa_cons pe_int (pa_cons (pe_callB (call_len_seq) (by rfl) B.len (by decide +kernel) (pa_cons (pv 2) pa_nil)) pa_nil)))))
  (pss_cons (ps_for PassesOwn.never rfl (pi_range1 (by rfl) B.range (pa_cons (pe_callB (call_len_seq) (by rfl) B.len (by decide +kernel) (pa_cons (pv 2) pa_nil)) pa_nil)) (pg_name (i := 6) sc__law_kept.nd rfl (Or.inl rfl))
      (pss_cons (ps_set (i := 7) sc__law_kept.nd rfl (Or.inl rfl) (pe_op op_mod (pe_op op_add (pv 6) (pv 5)) (pe_callB (call_len_seq) (by rfl) B.len (by decide +kernel) (pa_cons (pv 2) pa_nil))))
      (pss_cons (ps_set (i := 8) sc__law_kept.nd rfl (Or.inl rfl) (pe_f D_law_options (hr.mono (by omega)) pass0 (pa_cons (pv 0) (pa_cons (pv 7) pa_nil))))
      (pss_one (ps_if (PW.pt (pw_and (pt_cmpR op_gt (pe_callB (call_len_seq) (by rfl) B.len (by decide +kernel) (pa_cons (pv 8) pa_nil)) pe_int (nomark _)) (pw_and1 (pt_cmpR op_gt (pe_op op_mod (pe_ix ix_list (pv 4) (pe_op op_add pe_int (pe_op op_mul pe_int (pv 6))) (fun _ _ => rfl)) pe_int) pe_int (nomark _)))))
          (pss_cons (ps_set (i := 9) sc__law_kept.nd rfl (Or.inl rfl) (pe_ix ix_list (pv 8) (pe_op op_mod (pe_ix ix_list (pv 4) (pe_op op_add pe_int (pe_op op_mul pe_int (pv 6))) (fun _ _ => rfl)) (pe_callB (call_len_seq) (by rfl) B.len (by decide +kernel) (pa_cons (pv 8) pa_nil))) (fun _ _ => rfl)))
          (pss_cons (ps_set (i := 10) sc__law_kept.nd rfl (Or.inl rfl) (pe_op op_mod (pe_ix ix_list (pv 4) (pe_op op_add pe_int (pe_op op_mul pe_int (pv 6))) (fun _ _ => rfl)) (pe_fld (pe_ix ix_tup (pe_fld (pv 0) rfl) (pe_fld (pe_ix ix_tup (pe_fld (pv 0) rfl) (pe_ix ix_tup (pv 9) pe_int (fun _ _ => rfl)) (fun _ _ => rfl)) rfl) (fun _ _ => rfl)) rfl)))
          (C8.pss_cut (ps_if (pt_cmpR op_notN (pe_ix ix_list (pv 3) (pe_ix ix_tup (pv 9) pe_int (fun _ _ => rfl)) (fun _ _ => rfl)) pe_non (nomark _))
              (pss_one (ps_set (i := 10) sc__law_kept.nd rfl (Or.inl rfl) (pe_ix ix_list (pv 3) (pe_ix ix_tup (pv 9) pe_int (fun _ _ => rfl)) (fun _ _ => rfl))))
              (pss_nil))
          (pss_cons (ps_set (i := 11) sc__law_kept.nd rfl (Or.inl rfl) (pe_op op_cat (pe_op op_cat (pe_slice sl_list (pv 2) po_none (po_some (pv 7))) (pe_lst (pa_cons (pv 9) pa_nil))) (pe_slice sl_list (pv 2) (po_some (pe_op op_add (pv 7) pe_int)) po_none)))
          (pss_cons (ps_set (i := 12) sc__law_kept.nd rfl (Or.inl rfl) (pe_op op_cat (pe_op op_cat (pe_slice sl_list (pv 3) po_none (po_some (pe_ix ix_tup (pv 9) pe_int (fun _ _ => rfl)))) (pe_lst (pa_cons (pv 10) pa_nil))) (pe_slice sl_list (pv 3) (po_some (pe_op op_add (pe_ix ix_tup (pv 9) pe_int (fun _ _ => rfl)) pe_int)) po_none)))
          (pss_one (ps_if (pt_not (pt_val (pe_f D_law_breaks (hr.mono (by omega)) pass0 (pa_cons (pv 0) (pa_cons (pe_tup (pa_cons (pe_callTy (call_tuple_of) (by rfl) B.tuple (by decide +kernel) (pa_cons (pv 11) pa_nil)) (pa_cons (pe_callTy (call_tuple_of) (by rfl) B.tuple (by decide +kernel) (pa_cons (pv 12) pa_nil)) pa_nil))) pa_nil)))))
              (pss_cons (ps_set (i := 2) sc__law_kept.nd rfl (Or.inl rfl) (pv 11))
              (pss_one (ps_set (i := 3) sc__law_kept.nd rfl (Or.inl rfl) (pv 12))))
              (pss_nil))))))))
          (pss_nil))))))
  (pss_one (ps_ret (pe_tup (pa_cons (pe_callTy (call_tuple_of) (by rfl) B.tuple (by decide +kernel) (pa_cons (pv 2) pa_nil)) (pa_cons (pe_callTy (call_tuple_of) (by rfl) B.tuple (by decide +kernel) (pa_cons (pv 3) pa_nil)) pa_nil)))))))))
    , ?_⟩
  refine ⟨_, rfl, ac, CW, dx, _, _, rfl, gw, T.c_World.cl, T.n_World_recordings, lk_World_recordings, t2, rfl, ⟨_, p2⟩, fun M hM => lc_tup (K := K) (a := t2) (xs := x2) (fun i H' => Same H H' ∧ H' M = some (.lst (List.replicate i V.non))) ⟨same_new hM _, upd_same⟩ (fun i H' _ h => Same.tup h.1 p2) (fun i y H' hy hI => ?_) (fun H1 hI => ?_)⟩
  · obtain ⟨hs, hd⟩ := hI
    have hi := (List.getElem?_eq_some_iff.mp hy).1
    refine ⟨rfl, _, hd, by rw [List.length_replicate]; exact small1000 (by omega), same_at hM hs _, ?_⟩
    rw [upd_same, List.replicate_succ']
  obtain ⟨s1, hM1⟩ := hI
  refine ⟨_, rfl, ac, CW, dx, _, _, rfl, s1 _ _ gw, T.c_World.cl, T.n_World_passes, lk_World_passes, t3, rfl, ⟨_, Same.tup s1 p3⟩, fun F hF => lc_tup (K := K) (a := t3) (xs := x3) (fun i H' => Same H1 H' ∧ H' F = some (.lst (List.replicate i V.non))) ⟨same_new hF _, upd_same⟩ (fun i H' _ h => Same.tup (s1.trans h.1) p3) (fun i y H' hy hI => ?_) (fun H2 hI => ?_)⟩
  · obtain ⟨hs, hd⟩ := hI
    have hi := (List.getElem?_eq_some_iff.mp hy).1
    refine ⟨rfl, _, hd, by rw [List.length_replicate]; exact small1000 (by omega), same_at hF hs _, ?_⟩
    rw [upd_same, List.replicate_succ']
  obtain ⟨s2, hF2⟩ := hI
  have s12 := s1.trans s2
  have hM2 := s2 _ _ hM1
  refine ⟨_, rfl, _, rfl, M, List.replicate x2.length V.non, rfl, .inl (SqL.of hM2), _, _, rfl, rfl, .inl ⟨by decide, by decide⟩, _, _, rfl, rfl, x, 3 * x2.length + 1, ?_, by omega, fun np ds H3 s3 n3 hl hp => ?_⟩
  · show [V.int x, V.int (3 * ((List.replicate x2.length V.non).length : Int) + 1)] = [V.int x, V.int ((3 * x2.length + 1 : Nat) : Int)]
    rw [List.length_replicate]
    rw [show (3 * (x2.length : Int) + 1) = ((3 * x2.length + 1 : Nat) : Int) by omega]
  have s13 := s12.trans s3
  obtain ⟨d0, hd0⟩ : ∃ d, ds[0]? = some d := ⟨_, List.getElem?_eq_getElem (by omega)⟩
  have g0 : (ds.map V.int)[0]? = some (.int d0) := by rw [List.getElem?_map, hd0]; rfl
  refine ⟨_, rfl, np, _, _, _, rfl, rfl, SqL.of hp, atI_nat (j := 0) g0, ?_⟩
  refine ⟨_, rfl, M, List.replicate x2.length V.non, rfl, .inl (SqL.of (s3 _ _ hM2)), ?_⟩
  have hmx : (if ((List.replicate x2.length V.non).length : Int) > 1 then ((List.replicate x2.length V.non).length : Int) else 1) = (x2.length : Int) := by
    rw [List.length_replicate]
    split <;> omega
  refine ⟨_, _, rfl, ?_⟩
  rw [hmx]
  refine ⟨_, _, rfl, rfl, (by show (0 : Int) < (x2.length : Int); omega), ?_⟩
  have sh0 : 0 ≤ d0 % (x2.length : Int) := Int.emod_nonneg _ (by omega)
  dsimp only
  generalize d0 % (x2.length : Int) = sh at sh0
  refine ⟨_, rfl, M, List.replicate x2.length V.non, rfl, .inl (SqL.of (s3 _ _ hM2)), _, rfl, by omega, by rw [List.length_replicate]; omega, ?_⟩
  rw [List.length_replicate]
  have num : ∀ j : Nat, j < ds.length → ∃ v, (ds.map V.int)[j]? = some (.int v) := fun j hj => ⟨ds[j], by rw [List.getElem?_map, List.getElem?_eq_getElem hj]; rfl⟩
  refine for_range (lo := 0) (n := (x2.length : Int).toNat) (fun i σ H' => ∃ (M F : Addr) (xm xt : List V) (c : CaseD) (y6 y7 y8 y9 y10 y11 y12 : Option V), σ = [some (.ref ac), some (.int x), some (.ref M), some (.ref F), some (.ref np), some (.int sh), y6, y7, y8, y9, y10, y11, y12, none, none] ∧ Same H H' ∧ H' M = some (.lst xm) ∧ H' F = some (.lst xt) ∧ DpAll K H' xm (c.made.map entM) ∧ DpAll K H' xt (c.taken.map entT) ∧ KeptP W c ∧ H' np = some (.lst (ds.map V.int)))
    ⟨M, F, _, _, noPlan W, none, none, none, none, none, none, none, rfl, s13, s3 _ _ hM2, s3 _ _ hF2, by rw [l2]; exact dpAll_non rfl _, by rw [l3]; exact dpAll_non rfl _, kept_none wok, hp⟩ (fun i σ H4 hi hI => ?_) (fun σ H4 hI => ?_)
  · obtain ⟨M, F, xm, xt, c, y6, y7, y8, y9, y10, y11, y12, rfl, hs, hM, hF, dM, dF, kp, hn⟩ := hI
    have cg := kp.cg
    have nM := cg.nM
    have nT := cg.nT
    have lm := dpAll_len dM
    have lt := dpAll_len dF
    rw [List.length_map] at lm lt
    have r0 : 0 ≤ (0 + (i : Int) + sh) % (x2.length : Int) := Int.emod_nonneg _ (by omega)
    have r1 : (0 + (i : Int) + sh) % (x2.length : Int) < (x2.length : Int) := Int.emod_lt_of_pos _ (by omega)
    have lxm : (xm.length : Int) = (x2.length : Int) := by omega
    refine ⟨_, rfl, _, rfl, _, _, rfl, rfl, _, rfl, M, xm, rfl, .inl (SqL.of hM), ?_⟩
    rw [lxm]
    refine ⟨_, _, rfl, rfl, (by show (0 : Int) < (x2.length : Int); omega), ?_⟩
    dsimp only
    generalize (0 + (i : Int) + sh) % (x2.length : Int) = rr at r0 r1
    obtain ⟨r, rfl⟩ : ∃ r : Nat, rr = (r : Int) := ⟨rr.toNat, by omega⟩
    obtain ⟨z, hz⟩ : ∃ z, W.recs[r]? = some z := ⟨_, List.getElem?_eq_getElem (by omega)⟩
    have ok := wok.recs z (List.mem_of_getElem? hz)
    refine ⟨_, rfl, _, rfl, ac, W, r, z, rfl, wok, hW.same hs, hz, fun l ls H5 s5 hl0 hl5 hx => ?_⟩
    have s45 := hs.trans s5
    have lls := paired_len hx
    have lop := optsW_len wok ok
    have hM5 := s5 _ _ hM
    have hF5 := s5 _ _ hF
    have hn5 := s5 _ _ hn
    have dM5 := dpAll_same s5 dM
    have dF5 := dpAll_same s5 dF
    have stay : ∀ y9 y10 y11 y12, ∃ (M' F' : Addr) (xm xt : List V) (c : CaseD) (z6 z7 z8 z9 z10 z11 z12 : Option V), ([some (.ref ac), some (.int x), some (.ref M), some (.ref F), some (.ref np), some (.int sh), some (.int (0 + (i : Int))), some (.int (r : Int)), some (.ref l), y9, y10, y11, y12, none, none] : L2.St) = [some (.ref ac), some (.int x), some (.ref M'), some (.ref F'), some (.ref np), some (.int sh), z6, z7, z8, z9, z10, z11, z12, none, none] ∧ Same H H5 ∧ H5 M' = some (.lst xm) ∧ H5 F' = some (.lst xt) ∧ DpAll K H5 xm (c.made.map entM) ∧ DpAll K H5 xt (c.taken.map entT) ∧ KeptP W c ∧ H5 np = some (.lst (ds.map V.int)) := fun y9 y10 y11 y12 =>
      ⟨M, F, xm, xt, c, _, _, _, _, _, _, _, rfl, s45, hM5, hF5, dM5, dF5, kp, hn5⟩
    refine ⟨_, rfl, l, ls, rfl, .inl (SqL.of hl5), _, _, rfl, rfl, _, rfl, ite2 (fun k1 => ?_) (fun k1 => iteF (stay _ _ _ _))⟩
    have k1 : (ls.length : Int) > 0 := of_decide_eq_true k1
    obtain ⟨v1, g1⟩ := num (1 + 3 * i) (by omega)
    have e1 : 1 + (3 : Int) * (0 + (i : Int)) = ((1 + 3 * i : Nat) : Int) := by omega
    refine ⟨_, rfl, _, rfl, _, _, rfl, rfl, .inl ⟨by decide, by decide⟩, _, _, rfl, rfl, np, _, _, _, rfl, rfl, SqL.of hn5, (by rw [e1]; exact atI_nat g1), _, _, rfl, rfl, (by show (0 : Int) < _; decide), _, _, rfl, rfl, _, rfl, ite2 (fun k2 => ?_) (fun k2 => stay _ _ _ _)⟩
    obtain ⟨v2, g2⟩ := num (2 + 3 * i) (by omega)
    have e2 : 2 + (3 : Int) * (0 + (i : Int)) = ((2 + 3 * i : Nat) : Int) := by omega
    have o0 : 0 ≤ v2 % (ls.length : Int) := Int.emod_nonneg _ (by omega)
    have o1 : v2 % (ls.length : Int) < (ls.length : Int) := Int.emod_lt_of_pos _ (by omega)
    obtain ⟨j, ej⟩ : ∃ j : Nat, v2 % (ls.length : Int) = (j : Int) := ⟨(v2 % (ls.length : Int)).toNat, by omega⟩
    obtain ⟨u, hxj⟩ : ∃ u, ls[j]? = some u := ⟨_, List.getElem?_eq_getElem (by omega)⟩
    obtain ⟨y, hy, u, rfl, hu⟩ := paired_at hx hxj
    have om := optsW_mem ok (List.mem_of_getElem? hy)
    obtain ⟨st, pp⟩ := y
    obtain ⟨m1, m2, m3, m4⟩ := om
    dsimp only at m1 m2 m3 m4 hu
    obtain ⟨p, rfl⟩ : ∃ p : Nat, pp = (p : Int) := ⟨pp.toNat, by omega⟩
    obtain ⟨pz, hpz⟩ : ∃ pz, W.pass[p]? = some pz := ⟨_, List.getElem?_eq_getElem (by omega)⟩
    have pok := wok.pass pz (List.mem_of_getElem? hpz)
    obtain ⟨t, ht⟩ : ∃ t, W.stas[pz.sta]? = some t := ⟨_, List.getElem?_eq_getElem pok.sta⟩
    have tok := wok.stas t (List.mem_of_getElem? ht)
    obtain ⟨pb, pd, ts, hpb, c1, c2⟩ := rw_pas q3 hpz
    obtain ⟨tb, td, htb, k3⟩ := rw_sta q1 ht
    refine ⟨_, rfl, _, rfl, _, rfl, _, _, rfl, rfl, .inl ⟨by decide, by decide⟩, _, _, rfl, rfl, np, _, _, _, rfl, rfl, SqL.of hn5, (by rw [e2]; exact atI_nat g2), _, rfl, l, ls, rfl, .inl (SqL.of hl5), _, _, rfl, rfl, (by show (0 : Int) < (ls.length : Int); omega), l, ls, _, _, rfl, rfl, SqL.of hl5, (by rw [ej]; exact atI_nat hxj), ?_⟩
    obtain ⟨v3, g3⟩ := num (3 + 3 * i) (by omega)
    have e3 : 3 + (3 : Int) * (0 + (i : Int)) = ((3 + 3 * i : Nat) : Int) := by omega
    refine ⟨_, rfl, _, rfl, _, _, rfl, rfl, .inl ⟨by decide, by decide⟩, _, _, rfl, rfl, np, _, _, _, rfl, rfl, SqL.of hn5, (by rw [e3]; exact atI_nat g3), ?_⟩
    refine ⟨_, rfl, ac, CW, dx, _, _, rfl, s45 _ _ gw, T.c_World.cl, T.n_World_stations, lk_World_stations, _, rfl, ac, CW, dx, _, _, rfl, s45 _ _ gw, T.c_World.cl, T.n_World_passes, lk_World_passes, _, rfl, u, _, 1, _, rfl, rfl, hu, rfl, t3, x3, _, _, rfl, rfl, Same.tup s45 p3, atI_nat hpb, pb, CP, pd, _, _, rfl, s45 _ _ c1, T.c_Pass.cl, T.n_Pass_station, lk_Pass_station, t1, x1, (pz.sta : Int), _, rfl, rfl, Same.tup s45 p1, atI_nat htb, tb, CT, td, _, _, rfl, s45 _ _ k3, T.c_Station.cl, T.n_Station_antennas, lk_Station_antennas, _, _, rfl, rfl, (by show (0 : Int) < t.antennas; have := tok.antennas; omega), ?_⟩
    have a0 : 0 ≤ v3 % t.antennas := Int.emod_nonneg _ (by have := tok.antennas; omega)
    have a1 : v3 % t.antennas < t.antennas := Int.emod_lt_of_pos _ (by have := tok.antennas; omega)
    have a2 := tok.antennas
    dsimp only
    generalize v3 % t.antennas = an at a0 a1
    obtain ⟨e4, he4⟩ : ∃ e, c.taken[p]? = some e := ⟨_, List.getElem?_eq_getElem (by omega)⟩
    obtain ⟨v4, hv4, dv4⟩ := dpAll_get2 dF5 he4
    refine ⟨fun σ' H' => ∃ (n : Int), σ' = [some (.ref ac), some (.int x), some (.ref M), some (.ref F), some (.ref np), some (.int sh), some (.int (0 + (i : Int))), some (.int (r : Int)), some (.ref l), some (.ref u), some (.int n), y11, y12, none, none] ∧ 0 ≤ n ∧ n ≤ 5 ∧ H' = H5, ?_, fun σ' H' hm => ?_⟩
    · refine ⟨_, rfl, _, rfl, u, _, 1, _, rfl, rfl, hu, rfl, F, xt, _, _, rfl, rfl, SqL.of hF5, atI_nat hv4, rfl, ?_⟩
      have mk4 := cg.tOk _ (List.mem_of_getElem? he4)
      cases e4 with
      | non =>
        cases dv4
        exact ⟨_, rfl, iteF' rfl ⟨an, rfl, a0, by omega, rfl⟩⟩
      | opn => exact absurd mk4 Bool.false_ne_true
      | ant n4 =>
        cases dv4
        exact ⟨_, rfl, iteT' rfl ⟨_, rfl, _, rfl, u, _, 1, _, rfl, rfl, hu, rfl, F, xt, _, _, rfl, rfl, SqL.of hF5, atI_nat hv4, n4, rfl, mk4.1, mk4.2, rfl⟩⟩
    obtain ⟨n, rfl, n0, n5, rfl⟩ := hm
    have rl : r ≤ xm.length := by omega
    have pl : p ≤ xt.length := by omega
    -- next_made
    refine ⟨_, rfl, _, rfl, _, rfl, M, xm, rfl, SqL.of hM5, fun b1 hb1 => ?_⟩
    rw [cutX_to rl]
    have z1 := same_new hb1 (.lst (xm.take r))
    have w1 : (upd H' b1 (.lst (xm.take r))) b1 = some (.lst (xm.take r)) := upd_same
    generalize upd H' b1 (.lst (xm.take r)) = J1 at z1 w1
    refine ⟨_, rfl, (by show 1 ≤ sizeLine; decide), fun b2 hb2 => ?_⟩
    have z2 := same_new hb2 (.lst [.ref u])
    have w2 : (upd J1 b2 (.lst [.ref u])) b2 = some (.lst [.ref u]) := upd_same
    have w12 := z2 _ _ w1
    generalize upd J1 b2 (.lst [.ref u]) = J2 at z2 w2 w12
    refine ⟨b1, b2, _, _, rfl, rfl, w12, w2, Nat.le_trans (show _ ≤ 100 by rw [List.length_take]; show min r xm.length + 1 ≤ 100; omega) (show 100 ≤ sizeLine by decide), fun b3 hb3 => ?_⟩
    have z3 := same_new hb3 (.lst (xm.take r ++ [.ref u]))
    have w3 : (upd J2 b3 (.lst (xm.take r ++ [.ref u]))) b3 = some (.lst (xm.take r ++ [.ref u])) := upd_same
    generalize upd J2 b3 (.lst (xm.take r ++ [.ref u])) = J3 at z3 w3
    have y03 := z1.trans (z2.trans z3)
    refine ⟨_, rfl, _, rfl, _, _, rfl, rfl, _, rfl, ?_⟩
    unfold tNoPart
    refine ⟨M, xm, rfl, SqL.of (y03 _ _ hM5), fun b4 hb4 => ?_⟩
    rw [show (r : Int) + 1 = ((r + 1 : Nat) : Int) from rfl, cutX_from (by omega)]
    have z4 := same_new hb4 (.lst (xm.drop (r + 1)))
    have w4 : (upd J3 b4 (.lst (xm.drop (r + 1)))) b4 = some (.lst (xm.drop (r + 1))) := upd_same
    have w34 := z4 _ _ w3
    generalize upd J3 b4 (.lst (xm.drop (r + 1))) = J4 at z4 w4 w34
    refine ⟨b3, b4, _, _, rfl, rfl, w34, w4, Nat.le_trans (show _ ≤ 100 by rw [List.length_append, List.length_take, List.length_drop]; show min r xm.length + 1 + (xm.length - (r + 1)) ≤ 100; omega) (show 100 ≤ sizeLine by decide), fun b5 hb5 => ?_⟩
    have z5 := same_new hb5 (.lst (xm.take r ++ [.ref u] ++ xm.drop (r + 1)))
    have w5 : (upd J4 b5 (.lst (xm.take r ++ [.ref u] ++ xm.drop (r + 1)))) b5 = some (.lst (xm.take r ++ [.ref u] ++ xm.drop (r + 1))) := upd_same
    generalize upd J4 b5 (.lst (xm.take r ++ [.ref u] ++ xm.drop (r + 1))) = J5 at z5 w5
    have y05 := y03.trans (z4.trans z5)
    -- next_taken
    refine ⟨_, rfl, _, rfl, u, _, 1, _, rfl, rfl, Same.tup y05 hu, rfl, _, rfl, F, xt, rfl, SqL.of (y05 _ _ hF5), fun b1' hb1' => ?_⟩
    rw [cutX_to pl]
    have z6 := same_new hb1' (.lst (xt.take p))
    have w6 : (upd J5 b1' (.lst (xt.take p))) b1' = some (.lst (xt.take p)) := upd_same
    generalize upd J5 b1' (.lst (xt.take p)) = J6 at z6 w6
    refine ⟨_, rfl, (by show 1 ≤ sizeLine; decide), fun b2' hb2' => ?_⟩
    have z7 := same_new hb2' (.lst [.int n])
    have w7 : (upd J6 b2' (.lst [.int n])) b2' = some (.lst [.int n]) := upd_same
    have w67 := z7 _ _ w6
    generalize upd J6 b2' (.lst [.int n]) = J7 at z7 w7 w67
    refine ⟨b1', b2', _, _, rfl, rfl, w67, w7, Nat.le_trans (show _ ≤ 100 by rw [List.length_take]; show min p xt.length + 1 ≤ 100; omega) (show 100 ≤ sizeLine by decide), fun b3' hb3' => ?_⟩
    have z8 := same_new hb3' (.lst (xt.take p ++ [.int n]))
    have w8 : (upd J7 b3' (.lst (xt.take p ++ [.int n]))) b3' = some (.lst (xt.take p ++ [.int n])) := upd_same
    generalize upd J7 b3' (.lst (xt.take p ++ [.int n])) = J8 at z8 w8
    have y08 := y05.trans (z6.trans (z7.trans z8))
    refine ⟨_, rfl, _, rfl, u, _, 1, _, rfl, rfl, Same.tup y08 hu, rfl, _, _, rfl, rfl, _, rfl, ?_⟩
    refine ⟨F, xt, rfl, SqL.of (y08 _ _ hF5), fun b4' hb4' => ?_⟩
    rw [show (p : Int) + 1 = ((p + 1 : Nat) : Int) from rfl, cutX_from (by omega)]
    have z9 := same_new hb4' (.lst (xt.drop (p + 1)))
    have w9 : (upd J8 b4' (.lst (xt.drop (p + 1)))) b4' = some (.lst (xt.drop (p + 1))) := upd_same
    have w89 := z9 _ _ w8
    generalize upd J8 b4' (.lst (xt.drop (p + 1))) = J9 at z9 w9 w89
    refine ⟨b3', b4', _, _, rfl, rfl, w89, w9, Nat.le_trans (show _ ≤ 100 by rw [List.length_append, List.length_take, List.length_drop]; show min p xt.length + 1 + (xt.length - (p + 1)) ≤ 100; omega) (show 100 ≤ sizeLine by decide), fun b5' hb5' => ?_⟩
    have z10 := same_new hb5' (.lst (xt.take p ++ [.int n] ++ xt.drop (p + 1)))
    have w10 : (upd J9 b5' (.lst (xt.take p ++ [.int n] ++ xt.drop (p + 1)))) b5' = some (.lst (xt.take p ++ [.int n] ++ xt.drop (p + 1))) := upd_same
    generalize upd J9 b5' (.lst (xt.take p ++ [.int n] ++ xt.drop (p + 1))) = JA at z10 w10
    have y5A := (z6.trans (z7.trans z8)).trans (z9.trans z10)
    have y0A := y05.trans y5A
    have wA5 := y5A _ _ w5
    refine ⟨_, rfl, _, rfl, b5, _, rfl, .inl ⟨SqL.of wA5, fun t4 ht4 => ?_⟩⟩
    have z11 := same_new ht4 (.tup (xm.take r ++ [.ref u] ++ xm.drop (r + 1)))
    refine ⟨_, rfl, b5', _, rfl, .inl ⟨SqL.of (z11 _ _ w10), fun t5 ht5 => ⟨sz2_, fun t6 ht6 => ?_⟩⟩⟩
    have z12 := same_new ht5 (.tup (xt.take p ++ [.int n] ++ xt.drop (p + 1)))
    have z13 := same_new ht6 (.tup [.ref t4, .ref t5])
    have yA := y0A.trans (z11.trans (z12.trans z13))
    have s4A := s45.trans yA
    have dM' : DpAll K H' (xm.take r ++ [.ref u] ++ xm.drop (r + 1)) ((putAt c.made r (.at_ st (p : Int))).map entM) := putAt_dp dM5 (dp_at ⟨u, rfl, hu⟩)
    have dF' : DpAll K H' (xt.take p ++ [.int n] ++ xt.drop (p + 1)) ((putAt c.taken p (.ant n)).map entT) := putAt_dp dF5 (.int n)
    refine ⟨ac, .ref t6, W, ⟨putAt c.made r (.at_ st (p : Int)), putAt c.taken p (.ant n)⟩, rfl, wok, hW.same s4A, ⟨?_, ?_, fun e he => ?_, fun e he => ?_⟩, ?_, fun b JB sB hb => ?_⟩
    · show (putAt c.made r _).length = _
      rw [putAt_len (by omega)]
      exact nM
    · show (putAt c.taken p _).length = _
      rw [putAt_len (by omega)]
      exact nT
    · rcases putAt_mem he with h | h
      · exact cg.mOk e h
      · rw [h]
        exact ⟨m1, m2, m3, m4⟩
    · rcases putAt_mem he with h | h
      · exact cg.tOk e h
      · rw [h]
        exact ⟨n0, n5⟩
    · refine .tup (SqT.of upd_same) (.cons (.tup (SqT.of ((z12.trans z13) _ _ upd_same)) (dpAll_same yA dM')) (.cons (.tup (SqT.of (z13 _ _ upd_same)) (dpAll_same yA dF')) .nil))
    have s4B := s4A.trans sB
    have yB := yA.trans sB
    cases b with
    | true => exact ⟨_, rfl, iteF' rfl ⟨M, F, xm, xt, c, _, _, _, _, _, _, _, rfl, s4B, yB _ _ hM5, yB _ _ hF5, dpAll_same yB dM5, dpAll_same yB dF5, kp, yB _ _ hn5⟩⟩
    | false =>
      have zB := (z11.trans (z12.trans z13)).trans sB
      exact ⟨_, rfl, iteT' rfl ⟨_, rfl, _, rfl, b5, b5', _, _, _, _, _, _, _, _, _, _, rfl, s4B, zB _ _ wA5, zB _ _ w10, dpAll_same yB dM', dpAll_same yB dF', hb rfl, yB _ _ hn5⟩⟩
  · obtain ⟨M, F, xm, xt, c, y6, y7, y8, y9, y10, y11, y12, rfl, hs, hM, hF, dM, dF, kp, hn⟩ := hI
    refine ⟨_, rfl, M, _, rfl, .inl ⟨SqL.of hM, fun t1 ht1 => ?_⟩⟩
    have v1 := same_new ht1 (.tup xm)
    refine ⟨_, rfl, F, _, rfl, .inl ⟨SqL.of (v1 _ _ hF), fun t2 ht2 => ⟨sz2_, fun t3 ht3 => ?_⟩⟩⟩
    have v2 := same_new ht2 (.tup xt)
    have v3 := same_new ht3 (.tup [.ref t1, .ref t2])
    have v123 := v1.trans (v2.trans v3)
    exact q (.ref t3) c _ (hs.trans v123) kp (.tup (SqT.of upd_same) (.cons (.tup (SqT.of ((v2.trans v3) _ _ upd_same)) (dpAll_same v123 dM)) (.cons (.tup (SqT.of (v3 _ _ upd_same)) (dpAll_same v123 dF)) .nil)))
end
end DP
namespace DP
open PySem PySem.Spec PyProof.Rows L2
abbrev s_law : Stmt := topS 72
theorem sc_law : FnScope ["script", "world", "plan", "k", "row"] ["script"] (defScope s_law) := ⟨rfl, rfl, rfl, by decide +kernel, rfl, by decide +kernel, by decide +kernel⟩
section
variable {P : Program} {w : World} {K : PySem.W.Frag} {mg : Str → Option Value} {base : Heap} {CL CS CT CR CP CW aS aR fS fT fR fP : Addr}
def spLaw (K : PySem.W.Frag) : Sp := fun vs H Q _ => ∃ (a : Addr) (ns : List Int), vs = [.ref a] ∧ SqL K H a (ns.map V.int) ∧ ∀ H', Q (.bl true) H'
set_option maxHeartbeats 8000000 in
theorem d_law (T : TxtW K mg CL CS CT CR CP CW aS aR fS fT fR fP) (D_law_cell : DefOk P w K mg base CX0 1 "_law_cell" ["script", "k"] (spCell K)) (D_law_world : DefOk P w K mg base CX0 8 "_law_world" ["script"] (spWorldC K CS CT CR CP CW)) (D_law_kept : DefOk P w K mg base CX0 4 "_law_kept" ["world", "cell"] (spKept K CS CT CR CP CW))
    (D_law_row : DefOk P w K mg base CX0 2 "_law_row" ["world", "cell"] (spLawRow K CS CT CR CP CW)) (D_left_side : DefOk P w K mg base CX0 4 "left_side" ["world", "row", "plan"] (spLeft K CS CT CR CP CW)) (D_right_side : DefOk P w K mg base CX0 4 "right_side" ["world", "row"] (spRight K CS CT CR CP CW))
    (A : At K mg "law" s_law ["script"]) : DefOk P w K mg base CX0 9 "law" ["script"] (spLaw K) := by
  have B := T.L.B
  refine A.ok sc_law (fun vs H Q E h => ?_) (fun f cdv A outer s H vs Q E hr h => ?_)
  · obtain ⟨a, ns, rfl, _⟩ := h
    rfl
  obtain ⟨a, ns, rfl, hS, q⟩ := h
  refine ⟨_, pss_cons (ps_set (i := 1) sc_law.nd rfl (Or.inl rfl) (pe_f D_law_world (hr.mono (by omega)) pass0 (pa_cons (pv 0) pa_nil)))
  (pss_cons (ps_set (i := 2) sc_law.nd rfl (Or.inl rfl) (pe_f D_law_kept (hr.mono (by omega)) pass0 (pa_cons (pv 1) (pa_cons (pe_f D_law_cell (hr.mono (by omega)) pass0 (pa_cons (pv 0) (pa_cons pe_int pa_nil))) pa_nil))))
  (pss_cons (ps_for PassesOwn.never rfl (pi_range1 (by rfl) B.range (pa_cons pe_int pa_nil)) (pg_name (i := 3) sc_law.nd rfl (Or.inl rfl))
      (pss_cons (ps_set (i := 4) sc_law.nd rfl (Or.inl rfl) (pe_f D_law_row (hr.mono (by omega)) pass0 (pa_cons (pv 1) (pa_cons (pe_f D_law_cell (hr.mono (by omega)) pass0 (pa_cons (pv 0) (pa_cons (pe_op op_add pe_int (pv 3)) pa_nil))) pa_nil))))
      (pss_one (ps_if (pt_cmpR op_gt (pe_f D_left_side (hr.mono (by omega)) pass0 (pa_cons (pv 1) (pa_cons (pv 4) (pa_cons (pv 2) pa_nil)))) (pe_f D_right_side (hr.mono (by omega)) pass0 (pa_cons (pv 1) (pa_cons (pv 4) pa_nil))) (nomark _))
          (pss_one (ps_ret pe_bl))
          (pss_nil)))))
  (pss_one (ps_ret pe_bl))))
    , ?_⟩
  refine ⟨_, rfl, a, ns, rfl, hS, fun ac W H1 s1 cg hW => ?_⟩
  have wok := cg.ok
  refine ⟨_, rfl, _, rfl, a, ns, 20, rfl, s1.seq hS, by decide, fun u1 => ⟨ac, W, u1, rfl, cg, hW, fun v c H2 s2 kp hv => ?_⟩⟩
  have s12 := s1.trans s2
  refine ⟨16, rfl, by decide, by decide, for_range (lo := 0) (n := 16) (fun i σ H' => ∃ y3 y4, σ = [some (.ref a), some (.ref ac), some v, y3, y4] ∧ Same H2 H') ⟨none, none, rfl, Same.refl _⟩ (fun i σ H3 hi hI => ?_) (fun σ H3 hI => ?_)⟩
  · obtain ⟨y3, y4, rfl, hs⟩ := hI
    refine ⟨_, rfl, _, rfl, _, rfl, _, _, rfl, rfl, a, ns, 22 + (0 + (i : Int)), rfl, (s12.trans hs).seq hS, by omega, fun u2 => ⟨ac, W, u2, rfl, cg, (hW.same s2).same hs, fun t r H4 s4 rok ht => ?_⟩⟩
    have hs4 := hs.trans s4
    refine ⟨_, rfl, _, rfl, _, rfl, ac, t, v, W, r, false, c, rfl, wok, (hW.same s2).same hs4, ht, rok, kp.cg, dp_same hs4 hv, fun H5 s5 => ?_⟩
    have hs5 := hs4.trans s5
    refine ⟨_, rfl, _, rfl, ac, t, W, r, rfl, wok, (hW.same s2).same hs5, Same.tup s5 ht, rok, fun H6 s6 => ?_⟩
    have hk := kept_row wok kp rok
    refine ⟨_, _, rfl, rfl, _, rfl, iteF' (decide_eq_false (by omega)) ⟨_, _, rfl, hs5.trans s6⟩⟩
  · obtain ⟨y3, y4, rfl, hs⟩ := hI
    exact q _
end
end DP
namespace DP
open PySem PySem.Spec PyProof.Rows L2
section
variable {h : Heap} {K : PySem.W.Frag} {mg : Str → Option Value} {x m qual : Str} {st : Stmt} {ps : List Str} {C f p T : Addr} {oc oc' kV doc pm cdv ct : Value} {od od' an : Option Addr} {osl osl' : Array (Option Value)} {rest : List Value}
theorem cls_mk (X : K.In h) (G : h.Ns mainGlobals mg) (g : PySem.W.nsIn K mainGlobals x = some (some (.ref C))) (pg : PySem.W.plainGet K C Str.empty = true) (hd : PySem.W.hasDictIn K C = true) (po : PySem.W.plainOver K C = true)
    (sa : PySem.W.findIn K (.ref C) "__setattr__" = some (some (.builtin "object.__setattr__"))) (mk : PySem.W.makesIn K C = true) (kp : PySem.W.keepIn K (.ref C) = true) : ClsAt K mg x C := ⟨⟨pg, hd, po, sa⟩, mk, kp, PySem.W.mg_of X G g⟩
theorem met_mk (a : PySem.W.findIn K (.ref C) m = some (some (.ref f))) (i : PySem.W.isFn K (.ref f) = true) (l : K.lookup f = some ⟨oc, od, .func (PySem.W.fnOf m qual (defArgs st) (defBody st) (defScope st) .none kV doc pm an cdv ct), osl⟩)
    (c : PySem.W.codeIn K cdv qual = true) (k : PySem.W.keepIn K (.ref f) = true)
    (hb : ∀ (kV doc pm : Value) (an : Option Addr) (cdv ct : Value) (us : List Value), us.length = ps.length → bindArgs (PySem.W.fnOf m qual (defArgs st) (defBody st) (defScope st) .none kV doc pm an cdv ct) ⟨us, []⟩ = pure (ps.zip us)) : MAt K C m qual st ps := by
  have F := fun_mk (st := st) l c k
  exact ⟨f, _, F, ⟨a, i, k⟩, F.binds hb⟩
/-- one default, an int -/
theorem metD_mk {d : Int} {t : Tok} {n : Nat} (a : PySem.W.findIn K (.ref C) m = some (some (.ref f))) (i : PySem.W.isFn K (.ref f) = true) (l : K.lookup f = some ⟨oc, od, .func (PySem.W.fnOf m qual (defArgs st) (defBody st) (defScope st) (.ref T) kV doc pm an cdv ct), osl⟩)
    (lT : K.lookup T = some ⟨oc', od', .seq #[.int d t] n, osl'⟩)
    (c : PySem.W.codeIn K cdv qual = true) (k : PySem.W.keepIn K (.ref f) = true) (j : Nat) (hn : j + 1 = ps.length)
    (hb : ∀ (T : Addr) (kV doc pm : Value) (an : Option Addr) (cdv ct : Value) (us its : List Value), us.length = j → its.length = 1 →
      ∃ k, bindArgs (PySem.W.fnOf m qual (defArgs st) (defBody st) (defScope st) (.ref T) kV doc pm an cdv ct) ⟨us, []⟩ = seqItems? (.ref T) >>= k ∧ k (some its.toArray) = pure (ps.zip (us ++ its.drop 0))) : MAtD K C m qual st ps [.int d] := by
  have F : FunD K m qual (defArgs st) (defBody st) (defScope st) [.int d] [] f (PySem.W.fnOf m qual (defArgs st) (defBody st) (defScope st) (.ref T) kV doc pm an cdv ct) :=
    ⟨⟨oc, od, .ref T, kV, doc, pm, an, cdv, ct, osl, rfl, l, c, .inr ⟨List.cons_ne_nil _ _, T, _, [.int d t], n, rfl, lT, rfl, .cons ⟨t, rfl⟩ .nil⟩, .inl rfl⟩, k⟩
  obtain ⟨ds, v, b⟩ := F.binds1 (ps := ps) j 0 (List.cons_ne_nil _ _) hn hb
  exact ⟨f, _, ds, F, ⟨a, i, k⟩, b, v⟩
theorem smet_mk (a : PySem.W.findCls K (.ref C) (.type "type") m = some (.get (.builtin "staticmethod.__get__") (.ref p) .none (.ref C))) (r : PySem.W.recIn K p "staticmethod" = some (.ref f :: rest))
    (l : K.lookup f = some ⟨oc, od, .func (PySem.W.fnOf m qual (defArgs st) (defBody st) (defScope st) .none kV doc pm an cdv ct), osl⟩)
    (c : PySem.W.codeIn K cdv qual = true) (k : PySem.W.keepIn K (.ref f) = true)
    (hb : ∀ (kV doc pm : Value) (an : Option Addr) (cdv ct : Value) (us : List Value), us.length = ps.length → bindArgs (PySem.W.fnOf m qual (defArgs st) (defBody st) (defScope st) .none kV doc pm an cdv ct) ⟨us, []⟩ = pure (ps.zip us)) : SAt K C m qual st ps := by
  have F := fun_mk (st := st) l c k
  exact ⟨f, _, F, ⟨p, rest, a, r⟩, F.binds hb⟩
theorem int_mk {i : Int} {t : Tok} (X : K.In h) (G : h.Ns mainGlobals mg) (g : PySem.W.nsIn K mainGlobals x = some (some (.int i t))) : ∃ t, mg x = some (.int i t) := ⟨t, PySem.W.mg_of X G g⟩
theorem str_mk {z : Str} {t : Tok} (X : K.In h) (G : h.Ns mainGlobals mg) (g : PySem.W.nsIn K mainGlobals x = some (some (.str z t))) : ∃ t, mg x = some (.str z t) := ⟨t, PySem.W.mg_of X G g⟩
theorem cval_mk {i : Int} {t : Tok} (g : PySem.W.findCls K (.ref C) (.type "type") x = some (.val (.int i t))) : ∃ t, ClX.CVal K C (.type "type") x (.int i) (.int i t) := ⟨t, g, ⟨t, rfl⟩⟩
theorem tup4s_mk {a b c d : Str} {t0 t1 t2 t3 : Tok} {n : Nat} (l : K.lookup T = some ⟨.type "tuple", none, .seq #[.str a t0, .str b t1, .str c t2, .str d t3] n, osl⟩) : ∀ H, SqT K H T (([a, b, c, d]).map V.str) := fun H =>
  .inr ⟨_, _, _, l, rfl, rfl, by show 4 ≤ sizeLine; exact sz4_, .cons ⟨_, rfl⟩ (.cons ⟨_, rfl⟩ (.cons ⟨_, rfl⟩ (.cons ⟨_, rfl⟩ .nil)))⟩
theorem tup4r_mk {a b c d : Addr} {n : Nat} (l : K.lookup T = some ⟨.type "tuple", none, .seq #[.ref a, .ref b, .ref c, .ref d] n, osl⟩) : ∀ H, SqT K H T [.ref a, .ref b, .ref c, .ref d] := fun H =>
  .inr ⟨_, _, _, l, rfl, rfl, by show 4 ≤ sizeLine; exact sz4_, .cons rfl (.cons rfl (.cons rfl (.cons rfl .nil)))⟩
theorem tupk_mk {its : Array Value} {n : Nat} (l : K.lookup T = some ⟨.type "tuple", none, .seq its n, osl⟩) : ∃ o, K.lookup T = some o ∧ o.cls = .type "tuple" ∧ o.dict = none := ⟨_, l, rfl, rfl⟩
end
end DP
namespace DP
open PySem PySem.Spec PyProof.Rows L2
structure PF (K : PySem.W.Frag) (mg : Str → Option Value) (CL CS CT CR CP CW : Addr) : Prop where
  p_names_of : At K mg "names_of" s_names_of ["things"]
  p_read_light : At K mg "read_light" s_read_light ["line", "horizon"]
  p_read_satellite : At K mg "read_satellite" s_read_satellite ["line", "horizon", "things"]
  p_read_station : At K mg "read_station" s_read_station ["line", "_", "things"]
  p_read_recording : At K mg "read_recording" s_read_recording ["line", "horizon", "things"]
  p_read_pass : At K mg "read_pass" s_read_pass ["line", "horizon", "things"]
  p_most_things : At K mg "most_things" s_most_things ["sort"]
  p_read_sort : At K mg "read_sort" s_read_sort ["line", "ahead", "things"]
  p_read_things : At K mg "read_things" s_read_things ["lines", "horizon"]
  p_lines_of : At K mg "lines_of" s_lines_of ["text"]
  p_is_name : At K mg "is_name" s_is_name ["word"]
  p_is_number : At K mg "is_number" s_is_number ["word"]
  p_Line___init__ : MAt K CL "__init__" "Line.__init__" s_Line___init__ ["self", "number", "row"]
  p_Line_has_more : MAt K CL "has_more" "Line.has_more" s_Line_has_more ["self"]
  p_Line_due : MAt K CL "due" "Line.due" s_Line_due ["self"]
  p_Line_step : MAt K CL "step" "Line.step" s_Line_step ["self"]
  p_Line_read_choice : MAt K CL "read_choice" "Line.read_choice" s_Line_read_choice ["self", "choices"]
  p_Line_read_number : MAt K CL "read_number" "Line.read_number" s_Line_read_number ["self", "least", "most"]
  p_Line_read_field : MAt K CL "read_field" "Line.read_field" s_Line_read_field ["self", "word", "least", "most"]
  p_Line_due_name : MAt K CL "due_name" "Line.due_name" s_Line_due_name ["self"]
  p_Line_read_new_name : MAt K CL "read_new_name" "Line.read_new_name" s_Line_read_new_name ["self", "used"]
  p_Line_read_known_name : MAtD K CL "read_known_name" "Line.read_known_name" s_Line_read_known_name ["self", "names", "least"] [.int 0]
  p_Line_finish : MAt K CL "finish" "Line.finish" s_Line_finish ["self"]
  p_Satellite___init__ : MAt K CS "__init__" "Satellite.__init__" s_Satellite___init__ ["self", "name", "store", "battery", "start_level", "reserve", "charge", "settle", "light"]
  p_Station___init__ : MAt K CT "__init__" "Station.__init__" s_Station___init__ ["self", "name", "antennas", "turn"]
  p_Recording___init__ : MAt K CR "__init__" "Recording.__init__" s_Recording___init__ ["self", "name", "satellite", "earliest", "latest", "length", "size", "energy", "worth", "rank", "deadline"]
  p_Pass___init__ : MAt K CP "__init__" "Pass.__init__" s_Pass___init__ ["self", "name", "satellite", "station", "span", "room", "energy", "fee"]
  p_World___init__ : MAt K CW "__init__" "World.__init__" s_World___init__ ["self", "text", "horizon", "things"]
  p_World_parse : SAt K CW "parse" "World.parse" s_World_parse ["text"]
theorem hb_names_of : ∀ (kV doc pm : Value) (an : Option Addr) (cdv ct : Value) (us : List Value), us.length = (["things"] : List Str).length → bindArgs (PySem.W.fnOf "names_of" "names_of" (defArgs s_names_of) (defBody s_names_of) (defScope s_names_of) .none kV doc pm an cdv ct) ⟨us, []⟩ = pure ((["things"] : List Str).zip us) :=
  fun _ _ _ _ _ _ us hl => match us, hl with | [_], _ => rfl
theorem hb_read_light : ∀ (kV doc pm : Value) (an : Option Addr) (cdv ct : Value) (us : List Value), us.length = (["line", "horizon"] : List Str).length → bindArgs (PySem.W.fnOf "read_light" "read_light" (defArgs s_read_light) (defBody s_read_light) (defScope s_read_light) .none kV doc pm an cdv ct) ⟨us, []⟩ = pure ((["line", "horizon"] : List Str).zip us) :=
  fun _ _ _ _ _ _ us hl => match us, hl with | [_, _], _ => rfl
theorem hb_read_satellite : ∀ (kV doc pm : Value) (an : Option Addr) (cdv ct : Value) (us : List Value), us.length = (["line", "horizon", "things"] : List Str).length → bindArgs (PySem.W.fnOf "read_satellite" "read_satellite" (defArgs s_read_satellite) (defBody s_read_satellite) (defScope s_read_satellite) .none kV doc pm an cdv ct) ⟨us, []⟩ = pure ((["line", "horizon", "things"] : List Str).zip us) :=
  fun _ _ _ _ _ _ us hl => match us, hl with | [_, _, _], _ => rfl
theorem hb_read_station : ∀ (kV doc pm : Value) (an : Option Addr) (cdv ct : Value) (us : List Value), us.length = (["line", "_", "things"] : List Str).length → bindArgs (PySem.W.fnOf "read_station" "read_station" (defArgs s_read_station) (defBody s_read_station) (defScope s_read_station) .none kV doc pm an cdv ct) ⟨us, []⟩ = pure ((["line", "_", "things"] : List Str).zip us) :=
  fun _ _ _ _ _ _ us hl => match us, hl with | [_, _, _], _ => rfl
theorem hb_read_recording : ∀ (kV doc pm : Value) (an : Option Addr) (cdv ct : Value) (us : List Value), us.length = (["line", "horizon", "things"] : List Str).length → bindArgs (PySem.W.fnOf "read_recording" "read_recording" (defArgs s_read_recording) (defBody s_read_recording) (defScope s_read_recording) .none kV doc pm an cdv ct) ⟨us, []⟩ = pure ((["line", "horizon", "things"] : List Str).zip us) :=
  fun _ _ _ _ _ _ us hl => match us, hl with | [_, _, _], _ => rfl
theorem hb_read_pass : ∀ (kV doc pm : Value) (an : Option Addr) (cdv ct : Value) (us : List Value), us.length = (["line", "horizon", "things"] : List Str).length → bindArgs (PySem.W.fnOf "read_pass" "read_pass" (defArgs s_read_pass) (defBody s_read_pass) (defScope s_read_pass) .none kV doc pm an cdv ct) ⟨us, []⟩ = pure ((["line", "horizon", "things"] : List Str).zip us) :=
  fun _ _ _ _ _ _ us hl => match us, hl with | [_, _, _], _ => rfl
theorem hb_most_things : ∀ (kV doc pm : Value) (an : Option Addr) (cdv ct : Value) (us : List Value), us.length = (["sort"] : List Str).length → bindArgs (PySem.W.fnOf "most_things" "most_things" (defArgs s_most_things) (defBody s_most_things) (defScope s_most_things) .none kV doc pm an cdv ct) ⟨us, []⟩ = pure ((["sort"] : List Str).zip us) :=
  fun _ _ _ _ _ _ us hl => match us, hl with | [_], _ => rfl
theorem hb_read_sort : ∀ (kV doc pm : Value) (an : Option Addr) (cdv ct : Value) (us : List Value), us.length = (["line", "ahead", "things"] : List Str).length → bindArgs (PySem.W.fnOf "read_sort" "read_sort" (defArgs s_read_sort) (defBody s_read_sort) (defScope s_read_sort) .none kV doc pm an cdv ct) ⟨us, []⟩ = pure ((["line", "ahead", "things"] : List Str).zip us) :=
  fun _ _ _ _ _ _ us hl => match us, hl with | [_, _, _], _ => rfl
theorem hb_read_things : ∀ (kV doc pm : Value) (an : Option Addr) (cdv ct : Value) (us : List Value), us.length = (["lines", "horizon"] : List Str).length → bindArgs (PySem.W.fnOf "read_things" "read_things" (defArgs s_read_things) (defBody s_read_things) (defScope s_read_things) .none kV doc pm an cdv ct) ⟨us, []⟩ = pure ((["lines", "horizon"] : List Str).zip us) :=
  fun _ _ _ _ _ _ us hl => match us, hl with | [_, _], _ => rfl
theorem hb_lines_of : ∀ (kV doc pm : Value) (an : Option Addr) (cdv ct : Value) (us : List Value), us.length = (["text"] : List Str).length → bindArgs (PySem.W.fnOf "lines_of" "lines_of" (defArgs s_lines_of) (defBody s_lines_of) (defScope s_lines_of) .none kV doc pm an cdv ct) ⟨us, []⟩ = pure ((["text"] : List Str).zip us) :=
  fun _ _ _ _ _ _ us hl => match us, hl with | [_], _ => rfl
theorem hb_is_name : ∀ (kV doc pm : Value) (an : Option Addr) (cdv ct : Value) (us : List Value), us.length = (["word"] : List Str).length → bindArgs (PySem.W.fnOf "is_name" "is_name" (defArgs s_is_name) (defBody s_is_name) (defScope s_is_name) .none kV doc pm an cdv ct) ⟨us, []⟩ = pure ((["word"] : List Str).zip us) :=
  fun _ _ _ _ _ _ us hl => match us, hl with | [_], _ => rfl
theorem hb_is_number : ∀ (kV doc pm : Value) (an : Option Addr) (cdv ct : Value) (us : List Value), us.length = (["word"] : List Str).length → bindArgs (PySem.W.fnOf "is_number" "is_number" (defArgs s_is_number) (defBody s_is_number) (defScope s_is_number) .none kV doc pm an cdv ct) ⟨us, []⟩ = pure ((["word"] : List Str).zip us) :=
  fun _ _ _ _ _ _ us hl => match us, hl with | [_], _ => rfl
theorem hb_Line___init__ : ∀ (kV doc pm : Value) (an : Option Addr) (cdv ct : Value) (us : List Value), us.length = (["self", "number", "row"] : List Str).length → bindArgs (PySem.W.fnOf "__init__" "Line.__init__" (defArgs s_Line___init__) (defBody s_Line___init__) (defScope s_Line___init__) .none kV doc pm an cdv ct) ⟨us, []⟩ = pure ((["self", "number", "row"] : List Str).zip us) :=
  fun _ _ _ _ _ _ us hl => match us, hl with | [_, _, _], _ => rfl
theorem hb_Line_has_more : ∀ (kV doc pm : Value) (an : Option Addr) (cdv ct : Value) (us : List Value), us.length = (["self"] : List Str).length → bindArgs (PySem.W.fnOf "has_more" "Line.has_more" (defArgs s_Line_has_more) (defBody s_Line_has_more) (defScope s_Line_has_more) .none kV doc pm an cdv ct) ⟨us, []⟩ = pure ((["self"] : List Str).zip us) :=
  fun _ _ _ _ _ _ us hl => match us, hl with | [_], _ => rfl
theorem hb_Line_due : ∀ (kV doc pm : Value) (an : Option Addr) (cdv ct : Value) (us : List Value), us.length = (["self"] : List Str).length → bindArgs (PySem.W.fnOf "due" "Line.due" (defArgs s_Line_due) (defBody s_Line_due) (defScope s_Line_due) .none kV doc pm an cdv ct) ⟨us, []⟩ = pure ((["self"] : List Str).zip us) :=
  fun _ _ _ _ _ _ us hl => match us, hl with | [_], _ => rfl
theorem hb_Line_step : ∀ (kV doc pm : Value) (an : Option Addr) (cdv ct : Value) (us : List Value), us.length = (["self"] : List Str).length → bindArgs (PySem.W.fnOf "step" "Line.step" (defArgs s_Line_step) (defBody s_Line_step) (defScope s_Line_step) .none kV doc pm an cdv ct) ⟨us, []⟩ = pure ((["self"] : List Str).zip us) :=
  fun _ _ _ _ _ _ us hl => match us, hl with | [_], _ => rfl
theorem hb_Line_read_choice : ∀ (kV doc pm : Value) (an : Option Addr) (cdv ct : Value) (us : List Value), us.length = (["self", "choices"] : List Str).length → bindArgs (PySem.W.fnOf "read_choice" "Line.read_choice" (defArgs s_Line_read_choice) (defBody s_Line_read_choice) (defScope s_Line_read_choice) .none kV doc pm an cdv ct) ⟨us, []⟩ = pure ((["self", "choices"] : List Str).zip us) :=
  fun _ _ _ _ _ _ us hl => match us, hl with | [_, _], _ => rfl
theorem hb_Line_read_number : ∀ (kV doc pm : Value) (an : Option Addr) (cdv ct : Value) (us : List Value), us.length = (["self", "least", "most"] : List Str).length → bindArgs (PySem.W.fnOf "read_number" "Line.read_number" (defArgs s_Line_read_number) (defBody s_Line_read_number) (defScope s_Line_read_number) .none kV doc pm an cdv ct) ⟨us, []⟩ = pure ((["self", "least", "most"] : List Str).zip us) :=
  fun _ _ _ _ _ _ us hl => match us, hl with | [_, _, _], _ => rfl
theorem hb_Line_read_field : ∀ (kV doc pm : Value) (an : Option Addr) (cdv ct : Value) (us : List Value), us.length = (["self", "word", "least", "most"] : List Str).length → bindArgs (PySem.W.fnOf "read_field" "Line.read_field" (defArgs s_Line_read_field) (defBody s_Line_read_field) (defScope s_Line_read_field) .none kV doc pm an cdv ct) ⟨us, []⟩ = pure ((["self", "word", "least", "most"] : List Str).zip us) :=
  fun _ _ _ _ _ _ us hl => match us, hl with | [_, _, _, _], _ => rfl
theorem hb_Line_due_name : ∀ (kV doc pm : Value) (an : Option Addr) (cdv ct : Value) (us : List Value), us.length = (["self"] : List Str).length → bindArgs (PySem.W.fnOf "due_name" "Line.due_name" (defArgs s_Line_due_name) (defBody s_Line_due_name) (defScope s_Line_due_name) .none kV doc pm an cdv ct) ⟨us, []⟩ = pure ((["self"] : List Str).zip us) :=
  fun _ _ _ _ _ _ us hl => match us, hl with | [_], _ => rfl
theorem hb_Line_read_new_name : ∀ (kV doc pm : Value) (an : Option Addr) (cdv ct : Value) (us : List Value), us.length = (["self", "used"] : List Str).length → bindArgs (PySem.W.fnOf "read_new_name" "Line.read_new_name" (defArgs s_Line_read_new_name) (defBody s_Line_read_new_name) (defScope s_Line_read_new_name) .none kV doc pm an cdv ct) ⟨us, []⟩ = pure ((["self", "used"] : List Str).zip us) :=
  fun _ _ _ _ _ _ us hl => match us, hl with | [_, _], _ => rfl
theorem hb_Line_read_known_name : ∀ (T : Addr) (kV doc pm : Value) (an : Option Addr) (cdv ct : Value) (us its : List Value), us.length = 2 → its.length = 1 →
    ∃ k, bindArgs (PySem.W.fnOf "read_known_name" "Line.read_known_name" (defArgs s_Line_read_known_name) (defBody s_Line_read_known_name) (defScope s_Line_read_known_name) (.ref T) kV doc pm an cdv ct) ⟨us, []⟩ = seqItems? (.ref T) >>= k ∧ k (some its.toArray) = pure ((["self", "names", "least"] : List Str).zip (us ++ its.drop 0)) :=
  fun _ _ _ _ _ _ _ us its h1 h2 => match us, its, h1, h2 with | [_, _], [_], _, _ => ⟨_, rfl, rfl⟩
theorem hb_Line_finish : ∀ (kV doc pm : Value) (an : Option Addr) (cdv ct : Value) (us : List Value), us.length = (["self"] : List Str).length → bindArgs (PySem.W.fnOf "finish" "Line.finish" (defArgs s_Line_finish) (defBody s_Line_finish) (defScope s_Line_finish) .none kV doc pm an cdv ct) ⟨us, []⟩ = pure ((["self"] : List Str).zip us) :=
  fun _ _ _ _ _ _ us hl => match us, hl with | [_], _ => rfl
theorem hb_Satellite___init__ : ∀ (kV doc pm : Value) (an : Option Addr) (cdv ct : Value) (us : List Value), us.length = (["self", "name", "store", "battery", "start_level", "reserve", "charge", "settle", "light"] : List Str).length → bindArgs (PySem.W.fnOf "__init__" "Satellite.__init__" (defArgs s_Satellite___init__) (defBody s_Satellite___init__) (defScope s_Satellite___init__) .none kV doc pm an cdv ct) ⟨us, []⟩ = pure ((["self", "name", "store", "battery", "start_level", "reserve", "charge", "settle", "light"] : List Str).zip us) :=
  fun _ _ _ _ _ _ us hl => match us, hl with | [_, _, _, _, _, _, _, _, _], _ => rfl
theorem hb_Station___init__ : ∀ (kV doc pm : Value) (an : Option Addr) (cdv ct : Value) (us : List Value), us.length = (["self", "name", "antennas", "turn"] : List Str).length → bindArgs (PySem.W.fnOf "__init__" "Station.__init__" (defArgs s_Station___init__) (defBody s_Station___init__) (defScope s_Station___init__) .none kV doc pm an cdv ct) ⟨us, []⟩ = pure ((["self", "name", "antennas", "turn"] : List Str).zip us) :=
  fun _ _ _ _ _ _ us hl => match us, hl with | [_, _, _, _], _ => rfl
theorem hb_Recording___init__ : ∀ (kV doc pm : Value) (an : Option Addr) (cdv ct : Value) (us : List Value), us.length = (["self", "name", "satellite", "earliest", "latest", "length", "size", "energy", "worth", "rank", "deadline"] : List Str).length → bindArgs (PySem.W.fnOf "__init__" "Recording.__init__" (defArgs s_Recording___init__) (defBody s_Recording___init__) (defScope s_Recording___init__) .none kV doc pm an cdv ct) ⟨us, []⟩ = pure ((["self", "name", "satellite", "earliest", "latest", "length", "size", "energy", "worth", "rank", "deadline"] : List Str).zip us) :=
  fun _ _ _ _ _ _ us hl => match us, hl with | [_, _, _, _, _, _, _, _, _, _, _], _ => rfl
theorem hb_Pass___init__ : ∀ (kV doc pm : Value) (an : Option Addr) (cdv ct : Value) (us : List Value), us.length = (["self", "name", "satellite", "station", "span", "room", "energy", "fee"] : List Str).length → bindArgs (PySem.W.fnOf "__init__" "Pass.__init__" (defArgs s_Pass___init__) (defBody s_Pass___init__) (defScope s_Pass___init__) .none kV doc pm an cdv ct) ⟨us, []⟩ = pure ((["self", "name", "satellite", "station", "span", "room", "energy", "fee"] : List Str).zip us) :=
  fun _ _ _ _ _ _ us hl => match us, hl with | [_, _, _, _, _, _, _, _], _ => rfl
theorem hb_World___init__ : ∀ (kV doc pm : Value) (an : Option Addr) (cdv ct : Value) (us : List Value), us.length = (["self", "text", "horizon", "things"] : List Str).length → bindArgs (PySem.W.fnOf "__init__" "World.__init__" (defArgs s_World___init__) (defBody s_World___init__) (defScope s_World___init__) .none kV doc pm an cdv ct) ⟨us, []⟩ = pure ((["self", "text", "horizon", "things"] : List Str).zip us) :=
  fun _ _ _ _ _ _ us hl => match us, hl with | [_, _, _, _], _ => rfl
theorem hb_World_parse : ∀ (kV doc pm : Value) (an : Option Addr) (cdv ct : Value) (us : List Value), us.length = (["text"] : List Str).length → bindArgs (PySem.W.fnOf "parse" "World.parse" (defArgs s_World_parse) (defBody s_World_parse) (defScope s_World_parse) .none kV doc pm an cdv ct) ⟨us, []⟩ = pure ((["text"] : List Str).zip us) :=
  fun _ _ _ _ _ _ us hl => match us, hl with | [_], _ => rfl
section
variable {P : Program} {w : World} {K : PySem.W.Frag} {mg : Str → Option Value} {base : Heap} {CL CS CT CR CP CW aS aR fS fT fR fP : Addr}
theorem prog_parse (T : TxtW K mg CL CS CT CR CP CW aS aR fS fT fR fP) (F : PF K mg CL CS CT CR CP CW) : SDef P w K mg base CX0 7 CW "parse" ["text"] (spParse K CS CT CR CP CW) := by
  have L := T.L
  have B := L.B
  have D_init : MDef P w K mg base CX0 1 CL "__init__" _ [] _ := d_Line_init L F.p_Line___init__
  have D_has_more : MDef P w K mg base CX0 1 CL "has_more" _ [] _ := d_has_more L F.p_Line_has_more
  have D_due : MDef P w K mg base CX0 2 CL "due" _ [] _ := d_due L D_has_more F.p_Line_due
  have D_step : MDef P w K mg base CX0 1 CL "step" _ [] _ := d_step L F.p_Line_step
  have D_choice : MDef P w K mg base CX0 3 CL "read_choice" _ [] _ := d_read_choice L D_due D_step F.p_Line_read_choice
  have D_isnum : DefOk P w K mg base CX0 1 "is_number" _ _ := d_is_number L F.p_is_number
  have D_number : MDef P w K mg base CX0 3 CL "read_number" _ [] _ := d_read_number L D_isnum D_due D_step F.p_Line_read_number
  have D_field : MDef P w K mg base CX0 4 CL "read_field" _ [] _ := d_read_field L D_choice D_number F.p_Line_read_field
  have D_isname : DefOk P w K mg base CX0 1 "is_name" _ _ := d_is_name L F.p_is_name
  have D_due_name : MDef P w K mg base CX0 3 CL "due_name" _ [] _ := d_due_name L D_isname D_due F.p_Line_due_name
  have D_new : MDef P w K mg base CX0 4 CL "read_new_name" _ [] _ := d_read_new_name L D_due_name D_step F.p_Line_read_new_name
  have D_known : MDef P w K mg base CX0 4 CL "read_known_name" _ _ _ := d_read_known_name L D_due_name D_step F.p_Line_read_known_name
  have D_finish : MDef P w K mg base CX0 3 CL "finish" _ [] _ := d_finish L D_has_more F.p_Line_finish
  have D_lines : DefOk P w K mg base CX0 3 "lines_of" _ _ := d_lines_of L D_init F.p_lines_of
  have D_names : DefOk P w K mg base CX0 1 "names_of" _ _ := d_names_of B F.p_names_of
  have D_light : DefOk P w K mg base CX0 4 "read_light" _ _ := d_read_light T D_has_more D_number F.p_read_light
  have D1 : DefOk P w K mg base CX0 5 "read_satellite" _ _ := d_read_satellite T D_names D_new D_field D_choice D_light (dI_Satellite T F.p_Satellite___init__) F.p_read_satellite
  have D2 : DefOk P w K mg base CX0 5 "read_station" _ _ := d_read_station T D_names D_new D_field (dI_Station T F.p_Station___init__) F.p_read_station
  have D3 : DefOk P w K mg base CX0 5 "read_recording" _ _ := d_read_recording T D_names D_new D_field D_choice D_known (dI_Recording T F.p_Recording___init__) F.p_read_recording
  have D4 : DefOk P w K mg base CX0 5 "read_pass" _ _ := d_read_pass T D_names D_new D_field D_choice D_known (dI_Pass T F.p_Pass___init__) F.p_read_pass
  have D_most : DefOk P w K mg base CX0 1 "most_things" _ _ := d_most_things T F.p_most_things
  have D_sort : DefOk P w K mg base CX0 3 "read_sort" _ _ := d_read_sort T D_due D_step D_most F.p_read_sort
  have D_things : DefOk P w K mg base CX0 6 "read_things" _ _ := d_read_things T D_sort D1 D2 D3 D4
    (at_ne F.p_read_station F.p_read_satellite T.r_station T.r_satellite (by decide)) (at_ne F.p_read_recording F.p_read_satellite T.r_recording T.r_satellite (by decide)) (at_ne F.p_read_recording F.p_read_station T.r_recording T.r_station (by decide))
    (at_ne F.p_read_pass F.p_read_satellite T.r_pass T.r_satellite (by decide)) (at_ne F.p_read_pass F.p_read_station T.r_pass T.r_station (by decide)) (at_ne F.p_read_pass F.p_read_recording T.r_pass T.r_recording (by decide)) D_finish F.p_read_things
  exact d_parse T D_lines D_field D_finish D_things (dI_World T F.p_World___init__) F.p_World_parse
end
end DP
namespace DP
open PySem PySem.Spec PyProof.Rows L2
theorem the_law {P : Program} {w : World} {K : PySem.W.Frag} {mg : Str → Option Value} {base : Heap} {CL CS CT CR CP CW aS aR fS fT fR fP : Addr} (T : TxtW K mg CL CS CT CR CP CW aS aR fS fT fR fP) (F : PF K mg CL CS CT CR CP CW)
    (a1 : At K mg "_law_cell" s__law_cell ["script", "k"]) (a2 : At K mg "_law_draws" s__law_draws ["cell", "count"]) (a3 : At K mg "_law_satellite" s__law_satellite ["cell", "k"]) (a4 : At K mg "_law_recording" s__law_recording ["cell", "k", "satellites"]) (a5 : At K mg "_law_pass" s__law_pass ["cell", "k", "satellites", "stations"]) (a6 : At K mg "_law_text" s__law_text ["script", "recordings", "passes"]) (a7 : At K mg "_law_world" s__law_world ["script"]) (a8 : At K mg "_law_options" s__law_options ["world", "r"])
    (r1 : At K mg "has_minute" s_has_minute ["span", "minute"]) (r2 : At K mg "lengthened" s_lengthened ["span", "minutes"]) (r3 : At K mg "busy_part" s_busy_part ["world", "number", "span", "minute"]) (r4 : At K mg "is_spent" s_is_spent ["first", "minutes"]) (r5 : At K mg "minutes_within" s_minutes_within ["spans", "first", "end"]) (r6 : At K mg "light_minutes" s_light_minutes ["satellite", "first", "end"]) (r7 : At K mg "charged" s_charged ["satellite", "first", "end"]) (r8 : At K mg "right_side" s_right_side ["world", "row"]) (r9 : At K mg "recording_part" s_recording_part ["world", "row", "r", "option"]) (r10 : At K mg "pass_part" s_pass_part ["world", "row", "p"])
    (c5 : At K mg "is_filled" s_is_filled ["entry"]) (c6 : At K mg "left_side" s_left_side ["world", "row", "plan"])
    (b1 : At K mg "_law_meet" s__law_meet ["one", "other", "more"]) (b2 : At K mg "_law_busy" s__law_busy ["world", "plan", "s"]) (b3 : At K mg "_law_levels_broken" s__law_levels_broken ["world", "plan", "s"]) (b4 : At K mg "_law_passes_broken" s__law_passes_broken ["world", "plan"]) (b5 : At K mg "_law_breaks" s__law_breaks ["world", "plan"]) (b6 : At K mg "_law_kept" s__law_kept ["world", "cell"])
    (e1 : At K mg "_law_row" s__law_row ["world", "cell"]) (e7 : At K mg "law" s_law ["script"]) (TO : TxtO mg) : DefOk P w K mg base CX0 9 "law" ["script"] (spLaw K) := by
  have B := T.L.B
  have D_cell : DefOk P w K mg base CX0 1 "_law_cell" _ _ := d_cell B a1
  have D_draws : DefOk P w K mg base CX0 1 "_law_draws" _ _ := d_draws B a2
  have D_world : DefOk P w K mg base CX0 8 "_law_world" _ _ := d_worldC T D_cell (d_textC B D_cell D_draws (d_satC B D_draws a3) (d_recC B D_draws a4) (d_pasC B D_draws a5) a6) (prog_parse T F) a7
  have D_opt : DefOk P w K mg base CX0 1 "_law_options" _ _ := d_optC T a8
  have D_has : DefOk P w K mg base CX0 1 "has_minute" _ _ := d_has_minute B r1
  have D_len : DefOk P w K mg base CX0 1 "lengthened" _ _ := d_lengthened B r2
  have D_busy : DefOk P w K mg base CX0 2 "busy_part" _ _ := d_busy_part T D_has D_len r3
  have D_spent : DefOk P w K mg base CX0 1 "is_spent" _ _ := d_is_spent B r4
  have D_light : DefOk P w K mg base CX0 2 "light_minutes" _ _ := d_light_minutes T (d_minutes_within B r5) r6
  have D_right : DefOk P w K mg base CX0 4 "right_side" _ _ := d_right_side T (d_charged T D_light r7) r8
  have D_rec : DefOk P w K mg base CX0 3 "recording_part" _ _ := d_recording_part T D_busy D_has D_spent r9
  have D_pas : DefOk P w K mg base CX0 3 "pass_part" _ _ := d_pass_part T D_busy D_has D_len D_spent r10
  have D_left : DefOk P w K mg base CX0 4 "left_side" _ _ := d_left_side T (d_is_filled B TO c5) D_rec D_pas c6
  have D_meet : DefOk P w K mg base CX0 1 "_law_meet" _ _ := d_meetX B b1
  have D_brk : DefOk P w K mg base CX0 3 "_law_breaks" _ _ := d_brkX T D_opt D_meet (d_busyX T b2) (d_levX T b3) (d_pasX T D_meet b4) b5
  exact d_law T D_cell D_world (d_kept T D_draws D_opt D_brk b6) (d_law_row T D_draws e1) D_left D_right e7
theorem hb__law_cell : ∀ (kV doc pm : Value) (an : Option Addr) (cdv ct : Value) (us : List Value), us.length = (["script", "k"] : List Str).length → bindArgs (PySem.W.fnOf "_law_cell" "_law_cell" (defArgs s__law_cell) (defBody s__law_cell) (defScope s__law_cell) .none kV doc pm an cdv ct) ⟨us, []⟩ = pure ((["script", "k"] : List Str).zip us) :=
  fun _ _ _ _ _ _ us hl => match us, hl with | [_, _], _ => rfl
theorem hb__law_draws : ∀ (kV doc pm : Value) (an : Option Addr) (cdv ct : Value) (us : List Value), us.length = (["cell", "count"] : List Str).length → bindArgs (PySem.W.fnOf "_law_draws" "_law_draws" (defArgs s__law_draws) (defBody s__law_draws) (defScope s__law_draws) .none kV doc pm an cdv ct) ⟨us, []⟩ = pure ((["cell", "count"] : List Str).zip us) :=
  fun _ _ _ _ _ _ us hl => match us, hl with | [_, _], _ => rfl
theorem hb__law_satellite : ∀ (kV doc pm : Value) (an : Option Addr) (cdv ct : Value) (us : List Value), us.length = (["cell", "k"] : List Str).length → bindArgs (PySem.W.fnOf "_law_satellite" "_law_satellite" (defArgs s__law_satellite) (defBody s__law_satellite) (defScope s__law_satellite) .none kV doc pm an cdv ct) ⟨us, []⟩ = pure ((["cell", "k"] : List Str).zip us) :=
  fun _ _ _ _ _ _ us hl => match us, hl with | [_, _], _ => rfl
theorem hb__law_recording : ∀ (kV doc pm : Value) (an : Option Addr) (cdv ct : Value) (us : List Value), us.length = (["cell", "k", "satellites"] : List Str).length → bindArgs (PySem.W.fnOf "_law_recording" "_law_recording" (defArgs s__law_recording) (defBody s__law_recording) (defScope s__law_recording) .none kV doc pm an cdv ct) ⟨us, []⟩ = pure ((["cell", "k", "satellites"] : List Str).zip us) :=
  fun _ _ _ _ _ _ us hl => match us, hl with | [_, _, _], _ => rfl
theorem hb__law_pass : ∀ (kV doc pm : Value) (an : Option Addr) (cdv ct : Value) (us : List Value), us.length = (["cell", "k", "satellites", "stations"] : List Str).length → bindArgs (PySem.W.fnOf "_law_pass" "_law_pass" (defArgs s__law_pass) (defBody s__law_pass) (defScope s__law_pass) .none kV doc pm an cdv ct) ⟨us, []⟩ = pure ((["cell", "k", "satellites", "stations"] : List Str).zip us) :=
  fun _ _ _ _ _ _ us hl => match us, hl with | [_, _, _, _], _ => rfl
theorem hb__law_text : ∀ (kV doc pm : Value) (an : Option Addr) (cdv ct : Value) (us : List Value), us.length = (["script", "recordings", "passes"] : List Str).length → bindArgs (PySem.W.fnOf "_law_text" "_law_text" (defArgs s__law_text) (defBody s__law_text) (defScope s__law_text) .none kV doc pm an cdv ct) ⟨us, []⟩ = pure ((["script", "recordings", "passes"] : List Str).zip us) :=
  fun _ _ _ _ _ _ us hl => match us, hl with | [_, _, _], _ => rfl
theorem hb__law_world : ∀ (kV doc pm : Value) (an : Option Addr) (cdv ct : Value) (us : List Value), us.length = (["script"] : List Str).length → bindArgs (PySem.W.fnOf "_law_world" "_law_world" (defArgs s__law_world) (defBody s__law_world) (defScope s__law_world) .none kV doc pm an cdv ct) ⟨us, []⟩ = pure ((["script"] : List Str).zip us) :=
  fun _ _ _ _ _ _ us hl => match us, hl with | [_], _ => rfl
theorem hb__law_options : ∀ (kV doc pm : Value) (an : Option Addr) (cdv ct : Value) (us : List Value), us.length = (["world", "r"] : List Str).length → bindArgs (PySem.W.fnOf "_law_options" "_law_options" (defArgs s__law_options) (defBody s__law_options) (defScope s__law_options) .none kV doc pm an cdv ct) ⟨us, []⟩ = pure ((["world", "r"] : List Str).zip us) :=
  fun _ _ _ _ _ _ us hl => match us, hl with | [_, _], _ => rfl
theorem hb_has_minute : ∀ (kV doc pm : Value) (an : Option Addr) (cdv ct : Value) (us : List Value), us.length = (["span", "minute"] : List Str).length → bindArgs (PySem.W.fnOf "has_minute" "has_minute" (defArgs s_has_minute) (defBody s_has_minute) (defScope s_has_minute) .none kV doc pm an cdv ct) ⟨us, []⟩ = pure ((["span", "minute"] : List Str).zip us) :=
  fun _ _ _ _ _ _ us hl => match us, hl with | [_, _], _ => rfl
theorem hb_lengthened : ∀ (kV doc pm : Value) (an : Option Addr) (cdv ct : Value) (us : List Value), us.length = (["span", "minutes"] : List Str).length → bindArgs (PySem.W.fnOf "lengthened" "lengthened" (defArgs s_lengthened) (defBody s_lengthened) (defScope s_lengthened) .none kV doc pm an cdv ct) ⟨us, []⟩ = pure ((["span", "minutes"] : List Str).zip us) :=
  fun _ _ _ _ _ _ us hl => match us, hl with | [_, _], _ => rfl
theorem hb_busy_part : ∀ (kV doc pm : Value) (an : Option Addr) (cdv ct : Value) (us : List Value), us.length = (["world", "number", "span", "minute"] : List Str).length → bindArgs (PySem.W.fnOf "busy_part" "busy_part" (defArgs s_busy_part) (defBody s_busy_part) (defScope s_busy_part) .none kV doc pm an cdv ct) ⟨us, []⟩ = pure ((["world", "number", "span", "minute"] : List Str).zip us) :=
  fun _ _ _ _ _ _ us hl => match us, hl with | [_, _, _, _], _ => rfl
theorem hb_is_spent : ∀ (kV doc pm : Value) (an : Option Addr) (cdv ct : Value) (us : List Value), us.length = (["first", "minutes"] : List Str).length → bindArgs (PySem.W.fnOf "is_spent" "is_spent" (defArgs s_is_spent) (defBody s_is_spent) (defScope s_is_spent) .none kV doc pm an cdv ct) ⟨us, []⟩ = pure ((["first", "minutes"] : List Str).zip us) :=
  fun _ _ _ _ _ _ us hl => match us, hl with | [_, _], _ => rfl
theorem hb_minutes_within : ∀ (kV doc pm : Value) (an : Option Addr) (cdv ct : Value) (us : List Value), us.length = (["spans", "first", "end"] : List Str).length → bindArgs (PySem.W.fnOf "minutes_within" "minutes_within" (defArgs s_minutes_within) (defBody s_minutes_within) (defScope s_minutes_within) .none kV doc pm an cdv ct) ⟨us, []⟩ = pure ((["spans", "first", "end"] : List Str).zip us) :=
  fun _ _ _ _ _ _ us hl => match us, hl with | [_, _, _], _ => rfl
theorem hb_light_minutes : ∀ (kV doc pm : Value) (an : Option Addr) (cdv ct : Value) (us : List Value), us.length = (["satellite", "first", "end"] : List Str).length → bindArgs (PySem.W.fnOf "light_minutes" "light_minutes" (defArgs s_light_minutes) (defBody s_light_minutes) (defScope s_light_minutes) .none kV doc pm an cdv ct) ⟨us, []⟩ = pure ((["satellite", "first", "end"] : List Str).zip us) :=
  fun _ _ _ _ _ _ us hl => match us, hl with | [_, _, _], _ => rfl
theorem hb_charged : ∀ (kV doc pm : Value) (an : Option Addr) (cdv ct : Value) (us : List Value), us.length = (["satellite", "first", "end"] : List Str).length → bindArgs (PySem.W.fnOf "charged" "charged" (defArgs s_charged) (defBody s_charged) (defScope s_charged) .none kV doc pm an cdv ct) ⟨us, []⟩ = pure ((["satellite", "first", "end"] : List Str).zip us) :=
  fun _ _ _ _ _ _ us hl => match us, hl with | [_, _, _], _ => rfl
theorem hb_right_side : ∀ (kV doc pm : Value) (an : Option Addr) (cdv ct : Value) (us : List Value), us.length = (["world", "row"] : List Str).length → bindArgs (PySem.W.fnOf "right_side" "right_side" (defArgs s_right_side) (defBody s_right_side) (defScope s_right_side) .none kV doc pm an cdv ct) ⟨us, []⟩ = pure ((["world", "row"] : List Str).zip us) :=
  fun _ _ _ _ _ _ us hl => match us, hl with | [_, _], _ => rfl
theorem hb_recording_part : ∀ (kV doc pm : Value) (an : Option Addr) (cdv ct : Value) (us : List Value), us.length = (["world", "row", "r", "option"] : List Str).length → bindArgs (PySem.W.fnOf "recording_part" "recording_part" (defArgs s_recording_part) (defBody s_recording_part) (defScope s_recording_part) .none kV doc pm an cdv ct) ⟨us, []⟩ = pure ((["world", "row", "r", "option"] : List Str).zip us) :=
  fun _ _ _ _ _ _ us hl => match us, hl with | [_, _, _, _], _ => rfl
theorem hb_pass_part : ∀ (kV doc pm : Value) (an : Option Addr) (cdv ct : Value) (us : List Value), us.length = (["world", "row", "p"] : List Str).length → bindArgs (PySem.W.fnOf "pass_part" "pass_part" (defArgs s_pass_part) (defBody s_pass_part) (defScope s_pass_part) .none kV doc pm an cdv ct) ⟨us, []⟩ = pure ((["world", "row", "p"] : List Str).zip us) :=
  fun _ _ _ _ _ _ us hl => match us, hl with | [_, _, _], _ => rfl
theorem hb_is_filled : ∀ (kV doc pm : Value) (an : Option Addr) (cdv ct : Value) (us : List Value), us.length = (["entry"] : List Str).length → bindArgs (PySem.W.fnOf "is_filled" "is_filled" (defArgs s_is_filled) (defBody s_is_filled) (defScope s_is_filled) .none kV doc pm an cdv ct) ⟨us, []⟩ = pure ((["entry"] : List Str).zip us) :=
  fun _ _ _ _ _ _ us hl => match us, hl with | [_], _ => rfl
theorem hb_left_side : ∀ (kV doc pm : Value) (an : Option Addr) (cdv ct : Value) (us : List Value), us.length = (["world", "row", "plan"] : List Str).length → bindArgs (PySem.W.fnOf "left_side" "left_side" (defArgs s_left_side) (defBody s_left_side) (defScope s_left_side) .none kV doc pm an cdv ct) ⟨us, []⟩ = pure ((["world", "row", "plan"] : List Str).zip us) :=
  fun _ _ _ _ _ _ us hl => match us, hl with | [_, _, _], _ => rfl
theorem hb__law_meet : ∀ (kV doc pm : Value) (an : Option Addr) (cdv ct : Value) (us : List Value), us.length = (["one", "other", "more"] : List Str).length → bindArgs (PySem.W.fnOf "_law_meet" "_law_meet" (defArgs s__law_meet) (defBody s__law_meet) (defScope s__law_meet) .none kV doc pm an cdv ct) ⟨us, []⟩ = pure ((["one", "other", "more"] : List Str).zip us) :=
  fun _ _ _ _ _ _ us hl => match us, hl with | [_, _, _], _ => rfl
theorem hb__law_busy : ∀ (kV doc pm : Value) (an : Option Addr) (cdv ct : Value) (us : List Value), us.length = (["world", "plan", "s"] : List Str).length → bindArgs (PySem.W.fnOf "_law_busy" "_law_busy" (defArgs s__law_busy) (defBody s__law_busy) (defScope s__law_busy) .none kV doc pm an cdv ct) ⟨us, []⟩ = pure ((["world", "plan", "s"] : List Str).zip us) :=
  fun _ _ _ _ _ _ us hl => match us, hl with | [_, _, _], _ => rfl
theorem hb__law_levels_broken : ∀ (kV doc pm : Value) (an : Option Addr) (cdv ct : Value) (us : List Value), us.length = (["world", "plan", "s"] : List Str).length → bindArgs (PySem.W.fnOf "_law_levels_broken" "_law_levels_broken" (defArgs s__law_levels_broken) (defBody s__law_levels_broken) (defScope s__law_levels_broken) .none kV doc pm an cdv ct) ⟨us, []⟩ = pure ((["world", "plan", "s"] : List Str).zip us) :=
  fun _ _ _ _ _ _ us hl => match us, hl with | [_, _, _], _ => rfl
theorem hb__law_passes_broken : ∀ (kV doc pm : Value) (an : Option Addr) (cdv ct : Value) (us : List Value), us.length = (["world", "plan"] : List Str).length → bindArgs (PySem.W.fnOf "_law_passes_broken" "_law_passes_broken" (defArgs s__law_passes_broken) (defBody s__law_passes_broken) (defScope s__law_passes_broken) .none kV doc pm an cdv ct) ⟨us, []⟩ = pure ((["world", "plan"] : List Str).zip us) :=
  fun _ _ _ _ _ _ us hl => match us, hl with | [_, _], _ => rfl
theorem hb__law_breaks : ∀ (kV doc pm : Value) (an : Option Addr) (cdv ct : Value) (us : List Value), us.length = (["world", "plan"] : List Str).length → bindArgs (PySem.W.fnOf "_law_breaks" "_law_breaks" (defArgs s__law_breaks) (defBody s__law_breaks) (defScope s__law_breaks) .none kV doc pm an cdv ct) ⟨us, []⟩ = pure ((["world", "plan"] : List Str).zip us) :=
  fun _ _ _ _ _ _ us hl => match us, hl with | [_, _], _ => rfl
theorem hb__law_kept : ∀ (kV doc pm : Value) (an : Option Addr) (cdv ct : Value) (us : List Value), us.length = (["world", "cell"] : List Str).length → bindArgs (PySem.W.fnOf "_law_kept" "_law_kept" (defArgs s__law_kept) (defBody s__law_kept) (defScope s__law_kept) .none kV doc pm an cdv ct) ⟨us, []⟩ = pure ((["world", "cell"] : List Str).zip us) :=
  fun _ _ _ _ _ _ us hl => match us, hl with | [_, _], _ => rfl
theorem hb__law_row : ∀ (kV doc pm : Value) (an : Option Addr) (cdv ct : Value) (us : List Value), us.length = (["world", "cell"] : List Str).length → bindArgs (PySem.W.fnOf "_law_row" "_law_row" (defArgs s__law_row) (defBody s__law_row) (defScope s__law_row) .none kV doc pm an cdv ct) ⟨us, []⟩ = pure ((["world", "cell"] : List Str).zip us) :=
  fun _ _ _ _ _ _ us hl => match us, hl with | [_, _], _ => rfl
theorem hb_law : ∀ (kV doc pm : Value) (an : Option Addr) (cdv ct : Value) (us : List Value), us.length = (["script"] : List Str).length → bindArgs (PySem.W.fnOf "law" "law" (defArgs s_law) (defBody s_law) (defScope s_law) .none kV doc pm an cdv ct) ⟨us, []⟩ = pure ((["script"] : List Str).zip us) :=
  fun _ _ _ _ _ _ us hl => match us, hl with | [_], _ => rfl
theorem fin {l : PySem.W.OpenLaw} {w : World} {K : PySem.W.Frag} {mg : Str → Option Value} {fa CL CS CT CR CP CW aS aR fS fT fR fP : Addr} (hfa : mg "law" = some (.ref fa)) (T : TxtW K mg CL CS CT CR CP CW aS aR fS fT fR fP) (F : PF K mg CL CS CT CR CP CW)
    (a__law_cell : At K mg "_law_cell" s__law_cell ["script", "k"])
    (a__law_draws : At K mg "_law_draws" s__law_draws ["cell", "count"])
    (a__law_satellite : At K mg "_law_satellite" s__law_satellite ["cell", "k"])
    (a__law_recording : At K mg "_law_recording" s__law_recording ["cell", "k", "satellites"])
    (a__law_pass : At K mg "_law_pass" s__law_pass ["cell", "k", "satellites", "stations"])
    (a__law_text : At K mg "_law_text" s__law_text ["script", "recordings", "passes"])
    (a__law_world : At K mg "_law_world" s__law_world ["script"])
    (a__law_options : At K mg "_law_options" s__law_options ["world", "r"])
    (a_has_minute : At K mg "has_minute" s_has_minute ["span", "minute"])
    (a_lengthened : At K mg "lengthened" s_lengthened ["span", "minutes"])
    (a_busy_part : At K mg "busy_part" s_busy_part ["world", "number", "span", "minute"])
    (a_is_spent : At K mg "is_spent" s_is_spent ["first", "minutes"])
    (a_minutes_within : At K mg "minutes_within" s_minutes_within ["spans", "first", "end"])
    (a_light_minutes : At K mg "light_minutes" s_light_minutes ["satellite", "first", "end"])
    (a_charged : At K mg "charged" s_charged ["satellite", "first", "end"])
    (a_right_side : At K mg "right_side" s_right_side ["world", "row"])
    (a_recording_part : At K mg "recording_part" s_recording_part ["world", "row", "r", "option"])
    (a_pass_part : At K mg "pass_part" s_pass_part ["world", "row", "p"])
    (a_is_filled : At K mg "is_filled" s_is_filled ["entry"])
    (a_left_side : At K mg "left_side" s_left_side ["world", "row", "plan"])
    (a__law_meet : At K mg "_law_meet" s__law_meet ["one", "other", "more"])
    (a__law_busy : At K mg "_law_busy" s__law_busy ["world", "plan", "s"])
    (a__law_levels_broken : At K mg "_law_levels_broken" s__law_levels_broken ["world", "plan", "s"])
    (a__law_passes_broken : At K mg "_law_passes_broken" s__law_passes_broken ["world", "plan"])
    (a__law_breaks : At K mg "_law_breaks" s__law_breaks ["world", "plan"])
    (a__law_kept : At K mg "_law_kept" s__law_kept ["world", "cell"])
    (a__law_row : At K mg "_law_row" s__law_row ["world", "cell"])
    (a_law : At K mg "law" s_law ["script"])
    (TO : TxtO mg)
    : ∃ fd : FuncData, (∀ (s : Shared) (v : Value), BindsTo s fd ⟨[v], []⟩ [("script", v)]) ∧ ∀ base : Heap, K.In base → base.Ns mainGlobals mg → FnOk l.prog w K mg base CX0 9 fa fd ["script"] (spLaw K) :=
  a_law.end_ hfa (fun base => the_law T F a__law_cell a__law_draws a__law_satellite a__law_recording a__law_pass a__law_text a__law_world a__law_options a_has_minute a_lengthened a_busy_part a_is_spent a_minutes_within a_light_minutes a_charged a_right_side a_recording_part a_pass_part a_is_filled a_left_side a__law_meet a__law_busy a__law_levels_broken a__law_passes_broken a__law_breaks a__law_kept a__law_row a_law TO) (fun _ _ _ _ _ _ _ => rfl)
end DP
open PySem PySem.W PyProof.Rows
set_option maxHeartbeats 0 in
theorem PySem.Challenge.cw_downpass_k52_rows_hold_holds : PySem.Challenge.rw_downpass_k52_rows_hold.Holds := by
  w_on; o_law; k_head; (case hw => w_witness2)
  k_fill
  refine L2.walk_of (l := PySem.Challenge.rw_downpass_k52_rows_hold) (n := 63) (k := 9) (x := "script") (CX := fun _ => L2.CX0) (sp := fun w => DP.spLaw _) rfl (by decide) rfl ⟨rfl, by decide, by decide⟩ (fun w h Y => PySem.W.kIn_of Y) ?F (fun _ _ a ns hl _ hS => ⟨a, ns, rfl, hS, fun _ => rfl⟩) (fun _ _ _ _ _ h => h)
  case F =>
    intro w mg fa h KX G hmg
    refine' DP.fin hmg ⟨⟨⟨?z_len, ?z_range, ?z_int, ?z_str, ?z_tuple, ?z_sum, ?z_max, ?z_min, ?z_all, ?z_enumerate⟩, ?c_Line, ?n_Line_number, ?n_Line_words, ?n_Line_read, ?n_Line_column, ?g_LETTERS, ?g_DIGITS, ?g_MOST_NAME, ?g_MOST_DIGITS⟩, ?c_Satellite, ?c_Station, ?c_Recording, ?c_Pass, ?c_World, ?n_Satellite_name, ?n_Satellite_store, ?n_Satellite_battery, ?n_Satellite_start_level, ?n_Satellite_reserve, ?n_Satellite_charge, ?n_Satellite_settle, ?n_Satellite_light, ?n_Station_name, ?n_Station_antennas, ?n_Station_turn, ?n_Recording_name, ?n_Recording_satellite, ?n_Recording_earliest, ?n_Recording_latest, ?n_Recording_length, ?n_Recording_size, ?n_Recording_energy, ?n_Recording_worth, ?n_Recording_rank, ?n_Recording_deadline, ?n_Pass_name, ?n_Pass_satellite, ?n_Pass_station, ?n_Pass_span, ?n_Pass_room, ?n_Pass_energy, ?n_Pass_fee, ?n_World_text, ?n_World_horizon, ?n_World_satellites, ?n_World_stations, ?n_World_recordings, ?n_World_passes, ?g_SATELLITES, ?g_STATIONS, ?g_RECORDINGS, ?g_PASSES, ?g_MOST_UNITS, ?g_MOST_CHARGE, ?g_MOST_DELAY, ?g_MOST_ANTENNAS, ?g_MOST_WORTH, ?g_MOST_RANK, ?g_MOST_FEE, ?g_SORTS, ?t_SORTS, ?k_SORTS, ?g_READERS, ?t_READERS, ?r_satellite, ?r_station, ?r_recording, ?r_pass, ?rdW, ?v_MOST_HORIZON, ?v_MOST_SATELLITES, ?v_MOST_STATIONS, ?v_MOST_RECORDINGS, ?v_MOST_PASSES, ?v_MOST_SHIFT⟩ ⟨?p_names_of, ?p_read_light, ?p_read_satellite, ?p_read_station, ?p_read_recording, ?p_read_pass, ?p_most_things, ?p_read_sort, ?p_read_things, ?p_lines_of, ?p_is_name, ?p_is_number, ?p_Line___init__, ?p_Line_has_more, ?p_Line_due, ?p_Line_step, ?p_Line_read_choice, ?p_Line_read_number, ?p_Line_read_field, ?p_Line_due_name, ?p_Line_read_new_name, ?p_Line_read_known_name, ?p_Line_finish, ?p_Satellite___init__, ?p_Station___init__, ?p_Recording___init__, ?p_Pass___init__, ?p_World___init__, ?p_World_parse⟩ ?a__law_cell ?a__law_draws ?a__law_satellite ?a__law_recording ?a__law_pass ?a__law_text ?a__law_world ?a__law_options ?a_has_minute ?a_lengthened ?a_busy_part ?a_is_spent ?a_minutes_within ?a_light_minutes ?a_charged ?a_right_side ?a_recording_part ?a_pass_part ?a_is_filled ?a_left_side ?a__law_meet ?a__law_busy ?a__law_levels_broken ?a__law_passes_broken ?a__law_breaks ?a__law_kept ?a__law_row ?a_law ?TO
    (case c_Line => (refine' DP.cls_mk KX G ?g_u17 ?pg_u17 ?hd_u17 ?po_u17 ?sa_u17 ?mk_u17 ?kp_u17; (case g_u17 => k_is); (case pg_u17 => k_is); (case hd_u17 => k_is); (case po_u17 => k_is); (case sa_u17 => k_is); (case mk_u17 => k_is); (case kp_u17 => k_is)))
    (case c_Satellite => (refine' DP.cls_mk KX G ?g_u18 ?pg_u18 ?hd_u18 ?po_u18 ?sa_u18 ?mk_u18 ?kp_u18; (case g_u18 => k_is); (case pg_u18 => k_is); (case hd_u18 => k_is); (case po_u18 => k_is); (case sa_u18 => k_is); (case mk_u18 => k_is); (case kp_u18 => k_is)))
    (case c_Station => (refine' DP.cls_mk KX G ?g_u19 ?pg_u19 ?hd_u19 ?po_u19 ?sa_u19 ?mk_u19 ?kp_u19; (case g_u19 => k_is); (case pg_u19 => k_is); (case hd_u19 => k_is); (case po_u19 => k_is); (case sa_u19 => k_is); (case mk_u19 => k_is); (case kp_u19 => k_is)))
    (case c_Recording => (refine' DP.cls_mk KX G ?g_u20 ?pg_u20 ?hd_u20 ?po_u20 ?sa_u20 ?mk_u20 ?kp_u20; (case g_u20 => k_is); (case pg_u20 => k_is); (case hd_u20 => k_is); (case po_u20 => k_is); (case sa_u20 => k_is); (case mk_u20 => k_is); (case kp_u20 => k_is)))
    (case c_Pass => (refine' DP.cls_mk KX G ?g_u21 ?pg_u21 ?hd_u21 ?po_u21 ?sa_u21 ?mk_u21 ?kp_u21; (case g_u21 => k_is); (case pg_u21 => k_is); (case hd_u21 => k_is); (case po_u21 => k_is); (case sa_u21 => k_is); (case mk_u21 => k_is); (case kp_u21 => k_is)))
    (case c_World => (refine' DP.cls_mk KX G ?g_u22 ?pg_u22 ?hd_u22 ?po_u22 ?sa_u22 ?mk_u22 ?kp_u22; (case g_u22 => k_is); (case pg_u22 => k_is); (case hd_u22 => k_is); (case po_u22 => k_is); (case sa_u22 => k_is); (case mk_u22 => k_is); (case kp_u22 => k_is)))
    (case TO => (refine' ⟨DP.str_mk KX G ?tp1⟩; (case tp1 => k_is)))
    (case r_satellite => (refine' PySem.W.mg_of KX G ?q_u38; (case q_u38 => k_is)))
    (case r_station => (refine' PySem.W.mg_of KX G ?q_u39; (case q_u39 => k_is)))
    (case r_recording => (refine' PySem.W.mg_of KX G ?q_u40; (case q_u40 => k_is)))
    (case r_pass => (refine' PySem.W.mg_of KX G ?q_u41; (case q_u41 => k_is)))
    (case g_SORTS => (refine' PySem.W.mg_of KX G ?q_u42; (case q_u42 => k_is)))
    (case t_SORTS => (refine' DP.tup4s_mk ?q_u43; (case q_u43 => k_is)))
    (case k_SORTS => (refine' DP.tupk_mk ?q_u44; (case q_u44 => k_is)))
    (case g_READERS => (refine' PySem.W.mg_of KX G ?q_u45; (case q_u45 => k_is)))
    (case t_READERS => (refine' DP.tup4r_mk ?q_u46; (case q_u46 => k_is)))
    (case n_Line_number => (show PySem.W.findIn _ _ _ = some none; k_is))
    (case n_Line_words => (show PySem.W.findIn _ _ _ = some none; k_is))
    (case n_Line_read => (show PySem.W.findIn _ _ _ = some none; k_is))
    (case n_Line_column => (show PySem.W.findIn _ _ _ = some none; k_is))
    (case n_Satellite_name => (show PySem.W.findIn _ _ _ = some none; k_is))
    (case n_Satellite_store => (show PySem.W.findIn _ _ _ = some none; k_is))
    (case n_Satellite_battery => (show PySem.W.findIn _ _ _ = some none; k_is))
    (case n_Satellite_start_level => (show PySem.W.findIn _ _ _ = some none; k_is))
    (case n_Satellite_reserve => (show PySem.W.findIn _ _ _ = some none; k_is))
    (case n_Satellite_charge => (show PySem.W.findIn _ _ _ = some none; k_is))
    (case n_Satellite_settle => (show PySem.W.findIn _ _ _ = some none; k_is))
    (case n_Satellite_light => (show PySem.W.findIn _ _ _ = some none; k_is))
    (case n_Station_name => (show PySem.W.findIn _ _ _ = some none; k_is))
    (case n_Station_antennas => (show PySem.W.findIn _ _ _ = some none; k_is))
    (case n_Station_turn => (show PySem.W.findIn _ _ _ = some none; k_is))
    (case n_Recording_name => (show PySem.W.findIn _ _ _ = some none; k_is))
    (case n_Recording_satellite => (show PySem.W.findIn _ _ _ = some none; k_is))
    (case n_Recording_earliest => (show PySem.W.findIn _ _ _ = some none; k_is))
    (case n_Recording_latest => (show PySem.W.findIn _ _ _ = some none; k_is))
    (case n_Recording_length => (show PySem.W.findIn _ _ _ = some none; k_is))
    (case n_Recording_size => (show PySem.W.findIn _ _ _ = some none; k_is))
    (case n_Recording_energy => (show PySem.W.findIn _ _ _ = some none; k_is))
    (case n_Recording_worth => (show PySem.W.findIn _ _ _ = some none; k_is))
    (case n_Recording_rank => (show PySem.W.findIn _ _ _ = some none; k_is))
    (case n_Recording_deadline => (show PySem.W.findIn _ _ _ = some none; k_is))
    (case n_Pass_name => (show PySem.W.findIn _ _ _ = some none; k_is))
    (case n_Pass_satellite => (show PySem.W.findIn _ _ _ = some none; k_is))
    (case n_Pass_station => (show PySem.W.findIn _ _ _ = some none; k_is))
    (case n_Pass_span => (show PySem.W.findIn _ _ _ = some none; k_is))
    (case n_Pass_room => (show PySem.W.findIn _ _ _ = some none; k_is))
    (case n_Pass_energy => (show PySem.W.findIn _ _ _ = some none; k_is))
    (case n_Pass_fee => (show PySem.W.findIn _ _ _ = some none; k_is))
    (case n_World_text => (show PySem.W.findIn _ _ _ = some none; k_is))
    (case n_World_horizon => (show PySem.W.findIn _ _ _ = some none; k_is))
    (case n_World_satellites => (show PySem.W.findIn _ _ _ = some none; k_is))
    (case n_World_stations => (show PySem.W.findIn _ _ _ = some none; k_is))
    (case n_World_recordings => (show PySem.W.findIn _ _ _ = some none; k_is))
    (case n_World_passes => (show PySem.W.findIn _ _ _ = some none; k_is))
    (case z_len => (refine' PySem.W.mg_none_of KX G ?q_u1; (case q_u1 => k_is)))
    (case z_range => (refine' PySem.W.mg_none_of KX G ?q_u2; (case q_u2 => k_is)))
    (case z_int => (refine' PySem.W.mg_none_of KX G ?q_u3; (case q_u3 => k_is)))
    (case z_str => (refine' PySem.W.mg_none_of KX G ?q_u7; (case q_u7 => k_is)))
    (case z_tuple => (refine' PySem.W.mg_none_of KX G ?q_u8; (case q_u8 => k_is)))
    (case z_sum => (refine' PySem.W.mg_none_of KX G ?q_u10; (case q_u10 => k_is)))
    (case z_max => (refine' PySem.W.mg_none_of KX G ?q_u11; (case q_u11 => k_is)))
    (case z_min => (refine' PySem.W.mg_none_of KX G ?q_u12; (case q_u12 => k_is)))
    (case z_all => (refine' PySem.W.mg_none_of KX G ?q_u13; (case q_u13 => k_is)))
    (case z_enumerate => (refine' PySem.W.mg_none_of KX G ?q_u14; (case q_u14 => k_is)))
    (case g_LETTERS => (refine' DP.str_mk KX G ?q_u23; (case q_u23 => k_is)))
    (case g_DIGITS => (refine' DP.str_mk KX G ?q_u24; (case q_u24 => k_is)))
    (case g_MOST_NAME => (refine' DP.int_mk KX G ?q_u25; (case q_u25 => k_is)))
    (case g_MOST_DIGITS => (refine' DP.int_mk KX G ?q_u26; (case q_u26 => k_is)))
    (case g_SATELLITES => (refine' DP.int_mk KX G ?q_u27; (case q_u27 => k_is)))
    (case g_STATIONS => (refine' DP.int_mk KX G ?q_u28; (case q_u28 => k_is)))
    (case g_RECORDINGS => (refine' DP.int_mk KX G ?q_u29; (case q_u29 => k_is)))
    (case g_PASSES => (refine' DP.int_mk KX G ?q_u30; (case q_u30 => k_is)))
    (case g_MOST_UNITS => (refine' DP.int_mk KX G ?q_u31; (case q_u31 => k_is)))
    (case g_MOST_CHARGE => (refine' DP.int_mk KX G ?q_u32; (case q_u32 => k_is)))
    (case g_MOST_DELAY => (refine' DP.int_mk KX G ?q_u33; (case q_u33 => k_is)))
    (case g_MOST_ANTENNAS => (refine' DP.int_mk KX G ?q_u34; (case q_u34 => k_is)))
    (case g_MOST_WORTH => (refine' DP.int_mk KX G ?q_u35; (case q_u35 => k_is)))
    (case g_MOST_RANK => (refine' DP.int_mk KX G ?q_u36; (case q_u36 => k_is)))
    (case g_MOST_FEE => (refine' DP.int_mk KX G ?q_u37; (case q_u37 => k_is)))
    (case rdW => (refine' ⟨?rd_u47, ?ga_u47⟩; (case rd_u47 => k_is); (case ga_u47 => k_is)))
    (case v_MOST_HORIZON => (refine' DP.cval_mk ?q_u48; (case q_u48 => k_is)))
    (case v_MOST_SATELLITES => (refine' DP.cval_mk ?q_u49; (case q_u49 => k_is)))
    (case v_MOST_STATIONS => (refine' DP.cval_mk ?q_u50; (case q_u50 => k_is)))
    (case v_MOST_RECORDINGS => (refine' DP.cval_mk ?q_u51; (case q_u51 => k_is)))
    (case v_MOST_PASSES => (refine' DP.cval_mk ?q_u52; (case q_u52 => k_is)))
    (case v_MOST_SHIFT => (refine' DP.cval_mk ?q_u53; (case q_u53 => k_is)))
    (case p_names_of => (refine' DP.at_mk KX G ?a_u54 ?l_u54 ?c_u54 ?k_u54 DP.hb_names_of; (case a_u54 => k_is); (case l_u54 => k_is); (case c_u54 => k_is); (case k_u54 => k_is)))
    (case p_read_light => (refine' DP.at_mk KX G ?a_u55 ?l_u55 ?c_u55 ?k_u55 DP.hb_read_light; (case a_u55 => k_is); (case l_u55 => k_is); (case c_u55 => k_is); (case k_u55 => k_is)))
    (case p_read_satellite => (refine' DP.at_mk KX G ?a_u56 ?l_u56 ?c_u56 ?k_u56 DP.hb_read_satellite; (case a_u56 => k_is); (case l_u56 => k_is); (case c_u56 => k_is); (case k_u56 => k_is)))
    (case p_read_station => (refine' DP.at_mk KX G ?a_u57 ?l_u57 ?c_u57 ?k_u57 DP.hb_read_station; (case a_u57 => k_is); (case l_u57 => k_is); (case c_u57 => k_is); (case k_u57 => k_is)))
    (case p_read_recording => (refine' DP.at_mk KX G ?a_u58 ?l_u58 ?c_u58 ?k_u58 DP.hb_read_recording; (case a_u58 => k_is); (case l_u58 => k_is); (case c_u58 => k_is); (case k_u58 => k_is)))
    (case p_read_pass => (refine' DP.at_mk KX G ?a_u59 ?l_u59 ?c_u59 ?k_u59 DP.hb_read_pass; (case a_u59 => k_is); (case l_u59 => k_is); (case c_u59 => k_is); (case k_u59 => k_is)))
    (case p_most_things => (refine' DP.at_mk KX G ?a_u60 ?l_u60 ?c_u60 ?k_u60 DP.hb_most_things; (case a_u60 => k_is); (case l_u60 => k_is); (case c_u60 => k_is); (case k_u60 => k_is)))
    (case p_read_sort => (refine' DP.at_mk KX G ?a_u61 ?l_u61 ?c_u61 ?k_u61 DP.hb_read_sort; (case a_u61 => k_is); (case l_u61 => k_is); (case c_u61 => k_is); (case k_u61 => k_is)))
    (case p_read_things => (refine' DP.at_mk KX G ?a_u62 ?l_u62 ?c_u62 ?k_u62 DP.hb_read_things; (case a_u62 => k_is); (case l_u62 => k_is); (case c_u62 => k_is); (case k_u62 => k_is)))
    (case p_lines_of => (refine' DP.at_mk KX G ?a_u63 ?l_u63 ?c_u63 ?k_u63 DP.hb_lines_of; (case a_u63 => k_is); (case l_u63 => k_is); (case c_u63 => k_is); (case k_u63 => k_is)))
    (case p_is_name => (refine' DP.at_mk KX G ?a_u64 ?l_u64 ?c_u64 ?k_u64 DP.hb_is_name; (case a_u64 => k_is); (case l_u64 => k_is); (case c_u64 => k_is); (case k_u64 => k_is)))
    (case p_is_number => (refine' DP.at_mk KX G ?a_u65 ?l_u65 ?c_u65 ?k_u65 DP.hb_is_number; (case a_u65 => k_is); (case l_u65 => k_is); (case c_u65 => k_is); (case k_u65 => k_is)))
    (case p_Line___init__ => (refine' DP.met_mk ?a_u66 ?i_u66 ?l_u66 ?c_u66 ?k_u66 DP.hb_Line___init__; (case a_u66 => k_is); (case i_u66 => k_is); (case l_u66 => k_is); (case c_u66 => k_is); (case k_u66 => k_is)))
    (case p_Line_has_more => (refine' DP.met_mk ?a_u67 ?i_u67 ?l_u67 ?c_u67 ?k_u67 DP.hb_Line_has_more; (case a_u67 => k_is); (case i_u67 => k_is); (case l_u67 => k_is); (case c_u67 => k_is); (case k_u67 => k_is)))
    (case p_Line_due => (refine' DP.met_mk ?a_u68 ?i_u68 ?l_u68 ?c_u68 ?k_u68 DP.hb_Line_due; (case a_u68 => k_is); (case i_u68 => k_is); (case l_u68 => k_is); (case c_u68 => k_is); (case k_u68 => k_is)))
    (case p_Line_step => (refine' DP.met_mk ?a_u69 ?i_u69 ?l_u69 ?c_u69 ?k_u69 DP.hb_Line_step; (case a_u69 => k_is); (case i_u69 => k_is); (case l_u69 => k_is); (case c_u69 => k_is); (case k_u69 => k_is)))
    (case p_Line_read_choice => (refine' DP.met_mk ?a_u70 ?i_u70 ?l_u70 ?c_u70 ?k_u70 DP.hb_Line_read_choice; (case a_u70 => k_is); (case i_u70 => k_is); (case l_u70 => k_is); (case c_u70 => k_is); (case k_u70 => k_is)))
    (case p_Line_read_number => (refine' DP.met_mk ?a_u71 ?i_u71 ?l_u71 ?c_u71 ?k_u71 DP.hb_Line_read_number; (case a_u71 => k_is); (case i_u71 => k_is); (case l_u71 => k_is); (case c_u71 => k_is); (case k_u71 => k_is)))
    (case p_Line_read_field => (refine' DP.met_mk ?a_u72 ?i_u72 ?l_u72 ?c_u72 ?k_u72 DP.hb_Line_read_field; (case a_u72 => k_is); (case i_u72 => k_is); (case l_u72 => k_is); (case c_u72 => k_is); (case k_u72 => k_is)))
    (case p_Line_due_name => (refine' DP.met_mk ?a_u73 ?i_u73 ?l_u73 ?c_u73 ?k_u73 DP.hb_Line_due_name; (case a_u73 => k_is); (case i_u73 => k_is); (case l_u73 => k_is); (case c_u73 => k_is); (case k_u73 => k_is)))
    (case p_Line_read_new_name => (refine' DP.met_mk ?a_u74 ?i_u74 ?l_u74 ?c_u74 ?k_u74 DP.hb_Line_read_new_name; (case a_u74 => k_is); (case i_u74 => k_is); (case l_u74 => k_is); (case c_u74 => k_is); (case k_u74 => k_is)))
    (case p_Line_read_known_name => (refine' DP.metD_mk ?a_u75 ?i_u75 ?l_u75 ?lT_u75 ?c_u75 ?k_u75 2 rfl DP.hb_Line_read_known_name; (case a_u75 => k_is); (case i_u75 => k_is); (case l_u75 => k_is); (case lT_u75 => k_is); (case c_u75 => k_is); (case k_u75 => k_is)))
    (case p_Line_finish => (refine' DP.met_mk ?a_u76 ?i_u76 ?l_u76 ?c_u76 ?k_u76 DP.hb_Line_finish; (case a_u76 => k_is); (case i_u76 => k_is); (case l_u76 => k_is); (case c_u76 => k_is); (case k_u76 => k_is)))
    (case p_Satellite___init__ => (refine' DP.met_mk ?a_u77 ?i_u77 ?l_u77 ?c_u77 ?k_u77 DP.hb_Satellite___init__; (case a_u77 => k_is); (case i_u77 => k_is); (case l_u77 => k_is); (case c_u77 => k_is); (case k_u77 => k_is)))
    (case p_Station___init__ => (refine' DP.met_mk ?a_u78 ?i_u78 ?l_u78 ?c_u78 ?k_u78 DP.hb_Station___init__; (case a_u78 => k_is); (case i_u78 => k_is); (case l_u78 => k_is); (case c_u78 => k_is); (case k_u78 => k_is)))
    (case p_Recording___init__ => (refine' DP.met_mk ?a_u79 ?i_u79 ?l_u79 ?c_u79 ?k_u79 DP.hb_Recording___init__; (case a_u79 => k_is); (case i_u79 => k_is); (case l_u79 => k_is); (case c_u79 => k_is); (case k_u79 => k_is)))
    (case p_Pass___init__ => (refine' DP.met_mk ?a_u80 ?i_u80 ?l_u80 ?c_u80 ?k_u80 DP.hb_Pass___init__; (case a_u80 => k_is); (case i_u80 => k_is); (case l_u80 => k_is); (case c_u80 => k_is); (case k_u80 => k_is)))
    (case p_World___init__ => (refine' DP.met_mk ?a_u81 ?i_u81 ?l_u81 ?c_u81 ?k_u81 DP.hb_World___init__; (case a_u81 => k_is); (case i_u81 => k_is); (case l_u81 => k_is); (case c_u81 => k_is); (case k_u81 => k_is)))
    (case p_World_parse => (refine' DP.smet_mk ?a_u82 ?r_u82 ?l_u82 ?c_u82 ?k_u82 DP.hb_World_parse; (case a_u82 => k_is); (case r_u82 => k_is); (case l_u82 => k_is); (case c_u82 => k_is); (case k_u82 => k_is)))
    (case a__law_cell => (refine' DP.at_mk KX G ?a_u83 ?l_u83 ?c_u83 ?k_u83 DP.hb__law_cell; (case a_u83 => k_is); (case l_u83 => k_is); (case c_u83 => k_is); (case k_u83 => k_is)))
    (case a__law_draws => (refine' DP.at_mk KX G ?a_u84 ?l_u84 ?c_u84 ?k_u84 DP.hb__law_draws; (case a_u84 => k_is); (case l_u84 => k_is); (case c_u84 => k_is); (case k_u84 => k_is)))
    (case a__law_satellite => (refine' DP.at_mk KX G ?a_u85 ?l_u85 ?c_u85 ?k_u85 DP.hb__law_satellite; (case a_u85 => k_is); (case l_u85 => k_is); (case c_u85 => k_is); (case k_u85 => k_is)))
    (case a__law_recording => (refine' DP.at_mk KX G ?a_u86 ?l_u86 ?c_u86 ?k_u86 DP.hb__law_recording; (case a_u86 => k_is); (case l_u86 => k_is); (case c_u86 => k_is); (case k_u86 => k_is)))
    (case a__law_pass => (refine' DP.at_mk KX G ?a_u87 ?l_u87 ?c_u87 ?k_u87 DP.hb__law_pass; (case a_u87 => k_is); (case l_u87 => k_is); (case c_u87 => k_is); (case k_u87 => k_is)))
    (case a__law_text => (refine' DP.at_mk KX G ?a_u88 ?l_u88 ?c_u88 ?k_u88 DP.hb__law_text; (case a_u88 => k_is); (case l_u88 => k_is); (case c_u88 => k_is); (case k_u88 => k_is)))
    (case a__law_world => (refine' DP.at_mk KX G ?a_u89 ?l_u89 ?c_u89 ?k_u89 DP.hb__law_world; (case a_u89 => k_is); (case l_u89 => k_is); (case c_u89 => k_is); (case k_u89 => k_is)))
    (case a__law_options => (refine' DP.at_mk KX G ?a_u90 ?l_u90 ?c_u90 ?k_u90 DP.hb__law_options; (case a_u90 => k_is); (case l_u90 => k_is); (case c_u90 => k_is); (case k_u90 => k_is)))
    (case a_has_minute => (refine' DP.at_mk KX G ?a_u91 ?l_u91 ?c_u91 ?k_u91 DP.hb_has_minute; (case a_u91 => k_is); (case l_u91 => k_is); (case c_u91 => k_is); (case k_u91 => k_is)))
    (case a_lengthened => (refine' DP.at_mk KX G ?a_u92 ?l_u92 ?c_u92 ?k_u92 DP.hb_lengthened; (case a_u92 => k_is); (case l_u92 => k_is); (case c_u92 => k_is); (case k_u92 => k_is)))
    (case a_busy_part => (refine' DP.at_mk KX G ?a_u93 ?l_u93 ?c_u93 ?k_u93 DP.hb_busy_part; (case a_u93 => k_is); (case l_u93 => k_is); (case c_u93 => k_is); (case k_u93 => k_is)))
    (case a_is_spent => (refine' DP.at_mk KX G ?a_u94 ?l_u94 ?c_u94 ?k_u94 DP.hb_is_spent; (case a_u94 => k_is); (case l_u94 => k_is); (case c_u94 => k_is); (case k_u94 => k_is)))
    (case a_minutes_within => (refine' DP.at_mk KX G ?a_u95 ?l_u95 ?c_u95 ?k_u95 DP.hb_minutes_within; (case a_u95 => k_is); (case l_u95 => k_is); (case c_u95 => k_is); (case k_u95 => k_is)))
    (case a_light_minutes => (refine' DP.at_mk KX G ?a_u96 ?l_u96 ?c_u96 ?k_u96 DP.hb_light_minutes; (case a_u96 => k_is); (case l_u96 => k_is); (case c_u96 => k_is); (case k_u96 => k_is)))
    (case a_charged => (refine' DP.at_mk KX G ?a_u97 ?l_u97 ?c_u97 ?k_u97 DP.hb_charged; (case a_u97 => k_is); (case l_u97 => k_is); (case c_u97 => k_is); (case k_u97 => k_is)))
    (case a_right_side => (refine' DP.at_mk KX G ?a_u98 ?l_u98 ?c_u98 ?k_u98 DP.hb_right_side; (case a_u98 => k_is); (case l_u98 => k_is); (case c_u98 => k_is); (case k_u98 => k_is)))
    (case a_recording_part => (refine' DP.at_mk KX G ?a_u99 ?l_u99 ?c_u99 ?k_u99 DP.hb_recording_part; (case a_u99 => k_is); (case l_u99 => k_is); (case c_u99 => k_is); (case k_u99 => k_is)))
    (case a_pass_part => (refine' DP.at_mk KX G ?a_u100 ?l_u100 ?c_u100 ?k_u100 DP.hb_pass_part; (case a_u100 => k_is); (case l_u100 => k_is); (case c_u100 => k_is); (case k_u100 => k_is)))
    (case a_is_filled => (refine' DP.at_mk KX G ?a_u101 ?l_u101 ?c_u101 ?k_u101 DP.hb_is_filled; (case a_u101 => k_is); (case l_u101 => k_is); (case c_u101 => k_is); (case k_u101 => k_is)))
    (case a_left_side => (refine' DP.at_mk KX G ?a_u102 ?l_u102 ?c_u102 ?k_u102 DP.hb_left_side; (case a_u102 => k_is); (case l_u102 => k_is); (case c_u102 => k_is); (case k_u102 => k_is)))
    (case a__law_meet => (refine' DP.at_mk KX G ?a_u103 ?l_u103 ?c_u103 ?k_u103 DP.hb__law_meet; (case a_u103 => k_is); (case l_u103 => k_is); (case c_u103 => k_is); (case k_u103 => k_is)))
    (case a__law_busy => (refine' DP.at_mk KX G ?a_u104 ?l_u104 ?c_u104 ?k_u104 DP.hb__law_busy; (case a_u104 => k_is); (case l_u104 => k_is); (case c_u104 => k_is); (case k_u104 => k_is)))
    (case a__law_levels_broken => (refine' DP.at_mk KX G ?a_u105 ?l_u105 ?c_u105 ?k_u105 DP.hb__law_levels_broken; (case a_u105 => k_is); (case l_u105 => k_is); (case c_u105 => k_is); (case k_u105 => k_is)))
    (case a__law_passes_broken => (refine' DP.at_mk KX G ?a_u106 ?l_u106 ?c_u106 ?k_u106 DP.hb__law_passes_broken; (case a_u106 => k_is); (case l_u106 => k_is); (case c_u106 => k_is); (case k_u106 => k_is)))
    (case a__law_breaks => (refine' DP.at_mk KX G ?a_u107 ?l_u107 ?c_u107 ?k_u107 DP.hb__law_breaks; (case a_u107 => k_is); (case l_u107 => k_is); (case c_u107 => k_is); (case k_u107 => k_is)))
    (case a__law_kept => (refine' DP.at_mk KX G ?a_u108 ?l_u108 ?c_u108 ?k_u108 DP.hb__law_kept; (case a_u108 => k_is); (case l_u108 => k_is); (case c_u108 => k_is); (case k_u108 => k_is)))
    (case a__law_row => (refine' DP.at_mk KX G ?a_u109 ?l_u109 ?c_u109 ?k_u109 DP.hb__law_row; (case a_u109 => k_is); (case l_u109 => k_is); (case c_u109 => k_is); (case k_u109 => k_is)))
    (case a_law => (refine' DP.at_mk KX G ?a_u110 ?l_u110 ?c_u110 ?k_u110 DP.hb_law; (case a_u110 => k_is); (case l_u110 => k_is); (case c_u110 => k_is); (case k_u110 => k_is)))
