import PyProof.Rows.All
import Wide.All
import OpenK.AllK
import Wide.FinOn
import HandS.ForMost
import HandS.IsInst
import HandS.Sort
import HandS.Conv
import HandS.ClsMeth
import HandS.CallLocal
import HandS.Codes
import HandS.NoneIn
import HandS.Walk
import HandS.Defaults
import HandS.Strs
import HandS.SlotsOwn
import HandS.TupAny
import HandS.TupMul
import HandS.Deep
import HandS.FStr
import HandS.Zip
import HandS.TupLe
import HandS.Star
import HandS.TupSets
import KE.DataCmp
import HandS.Flow
import KE.GoesEnumKw
import KE.KUnpackStar
import KE.KeyNested
import KE.KDictKeyed
import PySem.Challenge.RW_downpass_k54_bounds
set_option Elab.async false
set_option linter.all false
set_option maxRecDepth 100000
set_option maxHeartbeats 4000000
namespace DP
open PySem PySem.Spec PyProof.Rows L2
/-- the built-in names that the text leaves alone -/
structure Bt (mg : Str → Option Value) : Prop where
  len : mg "len" = none
  range : mg "range" = none
  int : mg "int" = none
  isinstance : mg "isinstance" = none
  bool : mg "bool" = none
  str : mg "str" = none
  tuple : mg "tuple" = none
  list : mg "list" = none
  sum : mg "sum" = none
  max : mg "max" = none
  min : mg "min" = none
  all : mg "all" = none
  enumerate : mg "enumerate" = none
structure DefOk (P : Program) (w : World) (K : PySem.W.Frag) (mg : Str → Option Value) (base : Heap) (CX : CXT) (k : Nat) (x : Str) (ps : List Str) (sp : Sp) : Prop where
  ex : ∃ f fd, FnOk P w K mg base CX k f fd ps sp ∧ mg x = some (.ref f) ∧ PySem.W.keepIn K (.ref f) = true ∧ Binds K fd ps [] ∧ ∃ oc od osl, K.lookup f = some ⟨oc, od, .func fd, osl⟩
/-- where a def stands -/
structure At (K : PySem.W.Frag) (mg : Str → Option Value) (x : Str) (st : Stmt) (ps : List Str) : Prop where
  ex : ∃ f fd, Fun K x x st f fd ∧ mg x = some (.ref f) ∧ Binds K fd ps []
theorem pe_f {X : Cx} {CX : CXT} {k : Nat} {x : Str} {ps : List Str} {sp : Sp} {E : XK} {e : Expr} {es : List Expr} {t : TA} {p pos : Pos} (D : DefOk X.prog X.w X.K X.mg X.base CX k x ps sp) (hr : Room k X.A) (hx : Passes CX X E) (ha : PA X (e :: es) t)
    (hg : Gl X x := by rfl) (hdb : (x == ("__debug__" : Str)) = false := by decide) (he : starEach (e :: es) X.env = (false, eval e X.env) :: starEach es X.env := by rfl) (hpl : (backTo pos (starEach es X.env)).any (·.1) = false := by rfl) :
    PE X (.Call (.Name x p) (e :: es) [] pos) (tCall sp [] E t) := by
  obtain ⟨f, fd, G, m, kp, b, _⟩ := D.ex
  exact pe_call G hr hg m kp b .nil hx ha hdb he hpl
section
variable {P : Program} {w : World} {K : PySem.W.Frag} {mg : Str → Option Value} {base : Heap} {x : Str} {st : Stmt} {ps N : List Str} {k : Nat} {sp sp' : Sp}
theorem At.ok (F : At K mg x st ps) (S : FnScope N ps (defScope st)) (len : ∀ vs H Q E, sp vs H Q E → vs.length = ps.length)
    (hbody : ∀ (f : Addr) (cdv : Value) (A : Around) (outer : List Env) (s : Shared) (H : Hp) (vs : List V) (Q : VK) (E : XK), Room k (A.deeper (envOfC x (defScope st) s.heap.objs.size f cdv)) → sp vs H Q E →
      ∃ t, PSs (cxOf CX0 P w K mg base N x (defScope st) f cdv A outer s H E).nox (defBody st) t ∧ t { nx := fun _ H' => Q .non H', rt := Q } (start N vs) H) : DefOk P w K mg base CX0 (k + 1) x ps sp := by
  obtain ⟨f, fd, G, m, b⟩ := F.ex
  obtain ⟨oc, od, _, _, _, _, _, _, osl, _, lk, _⟩ := G.ex
  exact ⟨f, fd, G.ok S len (fun cdv A outer s H vs Q E hr h => hbody f cdv A outer s H vs Q E hr h), m, G.kp, b, oc, od, osl, lk⟩
/-- the law's def, for the end -/
theorem At.end_ {l : PySem.W.OpenLaw} {fa : Addr} (F : At K mg x st ["script"]) (hfa : mg x = some (.ref fa)) (h : ∀ base : Heap, DefOk l.prog w K mg base CX0 k x ["script"] sp)
    (hb : ∀ (kV doc pm : Value) (an : Option Addr) (cdv ct v : Value), bindArgs (PySem.W.fnOf x x (defArgs st) (defBody st) (defScope st) .none kV doc pm an cdv ct) ⟨[v], []⟩ = pure [(("script" : Str), v)]) :
    ∃ fd : FuncData, (∀ (s : Shared) (v : Value), BindsTo s fd ⟨[v], []⟩ [("script", v)]) ∧ ∀ base : Heap, K.In base → base.Ns mainGlobals mg → FnOk l.prog w K mg base CX0 k fa fd ["script"] sp := by
  obtain ⟨f, fd, G, m, b⟩ := F.ex
  rw [hfa] at m
  cases m
  refine ⟨fd, fun s v => ?_, fun base _ _ => ?_⟩
  · obtain ⟨oc, od, kV, doc, pm, an, cdv, ct, osl, rfl, lk, _⟩ := G.ex
    exact .of_eq (hb kV doc pm an cdv ct v)
  obtain ⟨f', fd', G', m', _, _, oc', od', osl', lk'⟩ := (h base).ex
  rw [hfa] at m'
  cases m'
  obtain ⟨oc, od, _, _, _, _, _, _, osl, _, lk, _⟩ := G.ex
  rw [lk] at lk'
  cases lk'
  exact G'
end
theorem at_mk {h : Heap} {K : PySem.W.Frag} {mg : Str → Option Value} (X : K.In h) (G : h.Ns mainGlobals mg) {x : Str} {st : Stmt} {ps : List Str} {f : Addr} {oc : Value} {od an : Option Addr} {osl : Array (Option Value)} {kV doc pm cdv ct : Value}
    (a : PySem.W.nsIn K mainGlobals x = some (some (.ref f))) (l : K.lookup f = some ⟨oc, od, .func (PySem.W.fnOf x x (defArgs st) (defBody st) (defScope st) .none kV doc pm an cdv ct), osl⟩)
    (c : PySem.W.codeIn K cdv x = true) (k : PySem.W.keepIn K (.ref f) = true)
    (hb : ∀ (kV doc pm : Value) (an : Option Addr) (cdv ct : Value) (us : List Value), us.length = ps.length → bindArgs (PySem.W.fnOf x x (defArgs st) (defBody st) (defScope st) .none kV doc pm an cdv ct) ⟨us, []⟩ = pure (ps.zip us)) : At K mg x st ps := by
  have F := fun_mk (st := st) l c k
  exact ⟨f, _, F, PySem.W.mg_of X G a, F.binds hb⟩
theorem same_new {H : Hp} {p : Addr} (h : H p = none) (o : HO) : Same H (upd H p o) := fun b u q => by rw [upd_ne (ne_of_none q h)]; exact q
theorem same_at {H H' : Hp} {p : Addr} (h : H p = none) (s : Same H H') (o : HO) : Same H (upd H' p o) := fun b u q => by rw [upd_ne (ne_of_none q h)]; exact s _ _ q
theorem Same.tup {K : PySem.W.Frag} {H H' : Hp} {a : Addr} {xs : List V} (e : Same H H') (h : SqT K H a xs) : SqT K H' a xs := by
  rcases h with (h | ⟨o, h⟩) | h
  · exact .inl (.inl (e _ _ h))
  · exact .inl (.inr ⟨o, e _ _ h⟩)
  · exact .inr h
theorem iteT' {c : Bool} {A B : Prop} (e : c = true) (h : A) : if c = true then A else B := by
  rw [if_pos e]
  exact h
theorem iteF' {c : Bool} {A B : Prop} (e : c = false) (h : B) : if c = true then A else B := by
  rw [e]
  exact iteF h
theorem small {n : Nat} (h : n ≤ 1000) : n ≤ sizeLine := Nat.le_of_lt (small1000 h)
section
variable {X : Cx} {K : PySem.W.Frag}
theorem ix_tupK (h : X.K = K) : IxR X (rIxT K) := by subst h; exact ix_tup
theorem call_len_seqK (h : X.K = K) : CallR X (.builtin "len") (fun xs H Q => ∃ p ys, xs = [.ref p] ∧ (SqL K H p ys ∨ SqT K H p ys) ∧ Q (.int ys.length) H) := by subst h; exact call_len_seq
end
end DP
namespace DP
open PySem PySem.Spec PyProof.Rows L2
/-- a span of two ints -/
def SpanV (K : PySem.W.Frag) (H : Hp) (x : V) (q : Int × Int) : Prop := ∃ t, x = .ref t ∧ SqT K H t [.int q.1, .int q.2]
abbrev Spans (K : PySem.W.Frag) (H : Hp) (xs : List V) (qs : List (Int × Int)) : Prop := Paired (SpanV K H) xs qs
theorem paired_snoc {α β : Type} {F : α → β → Prop} : ∀ {xs : List α} {ys : List β} {x : α} {y : β}, Paired F xs ys → F x y → Paired F (xs ++ [x]) (ys ++ [y])
  | _, _, _, _, .nil, h => .cons h .nil
  | _, _, _, _, .cons a t, h => .cons a (paired_snoc t h)
theorem paired_at {α β : Type} {F : α → β → Prop} : ∀ {xs : List α} {ys : List β} {i : Nat} {x : α}, Paired F xs ys → xs[i]? = some x → ∃ y, ys[i]? = some y ∧ F x y
  | _, _, _, _, .nil, h => by simp at h
  | _, _, 0, _, .cons a _, h => ⟨_, rfl, by rw [← Option.some.inj h]; exact a⟩
  | _, _, i + 1, _, .cons _ t, h => by
    obtain ⟨y, h1, h2⟩ := paired_at (i := i) t h
    exact ⟨y, h1, h2⟩
theorem paired_len {α β : Type} {F : α → β → Prop} {xs : List α} {ys : List β} (h : Paired F xs ys) : xs.length = ys.length := Paired.length h
/-- a tuple stands where a list is changed -/
theorem sqT_upd {K : PySem.W.Frag} {H : Hp} {t L : Addr} {xs ys : List V} {o : HO} (h : SqT K H t xs) (e : H L = some (.lst ys)) : SqT K (upd H L o) t xs := by
  rcases h with (h | ⟨u, h⟩) | h
  · exact .inl (.inl (by rw [upd_ne (ne_of h e (fun z => nomatch z))]; exact h))
  · exact .inl (.inr ⟨u, by rw [upd_ne (ne_of h e (fun z => nomatch z))]; exact h⟩)
  · exact .inr h
theorem Spans.upd {K : PySem.W.Frag} {H : Hp} {L : Addr} {xs ys : List V} {qs : List (Int × Int)} {o : HO} (h : Spans K H xs qs) (e : H L = some (.lst ys)) : Spans K (L2.upd H L o) xs qs :=
  Paired.mapP h fun _ _ ⟨t, h1, h2⟩ => ⟨t, h1, sqT_upd h2 e⟩
theorem Spans.same {K : PySem.W.Frag} {H H' : Hp} {xs : List V} {qs : List (Int × Int)} (h : Spans K H xs qs) (s : Same H H') : Spans K H' xs qs :=
  Paired.mapP h fun _ _ ⟨t, h1, h2⟩ => ⟨t, h1, Same.tup s h2⟩
/-- the minutes from f to e - 1 in one span -/
def mwOne (f e : Int) (q : Int × Int) : Int := if (if q.2 < e then q.2 else e) - (if q.1 > f then q.1 else f) > 0 then (if q.2 < e then q.2 else e) - (if q.1 > f then q.1 else f) else 0
def mw (qs : List (Int × Int)) (f e : Int) : Int := (qs.map (mwOne f e)).sum
def hasM (m : Int) (q : Int × Int) : Bool := decide (q.1 ≤ m) && decide (m < q.2)
theorem mwOne_le {f e : Int} {q : Int × Int} (h : e ≤ f) : mwOne f e q = 0 := by
  unfold mwOne
  split <;> split <;> split <;> omega
theorem mw_le {f e : Int} (h : e ≤ f) : ∀ qs : List (Int × Int), mw qs f e = 0
  | [] => rfl
  | q :: r => by
    show mwOne f e q + mw r f e = 0
    rw [mwOne_le h, mw_le h r]
    rfl
theorem mwOne_succ {f e : Int} {q : Int × Int} (h : f ≤ e) (hq : q.1 < q.2) : mwOne f (e + 1) q = mwOne f e q + (if hasM e q = true then 1 else 0) := by
  unfold mwOne hasM
  by_cases c1 : q.1 ≤ e
  · by_cases c2 : e < q.2
    · rw [decide_eq_true c1, decide_eq_true c2]
      rw [if_pos (show (true && true) = true from rfl)]
      repeat' (first | omega | split)
    · rw [decide_eq_false c2, Bool.and_false, if_neg Bool.false_ne_true]
      repeat' (first | omega | split)
  · rw [decide_eq_false c1, Bool.false_and, if_neg Bool.false_ne_true]
    repeat' (first | omega | split)
theorem mw_succ {f e : Int} (h : f ≤ e) : ∀ qs : List (Int × Int), (∀ q ∈ qs, q.1 < q.2) → mw qs f (e + 1) = mw qs f e + ((qs.filter (hasM e)).length : Int)
  | [], _ => rfl
  | q :: r, hq => by
    have ih := mw_succ h r fun x hx => hq x (List.mem_cons_of_mem _ hx)
    have h1 := mwOne_succ h (hq q List.mem_cons_self)
    show mwOne f (e + 1) q + mw r f (e + 1) = mwOne f e q + mw r f e + _
    rw [ih, h1, List.filter_cons]
    by_cases c : hasM e q = true
    · rw [if_pos c, if_pos c, List.length_cons]
      (clear h hq ih h1 c; omega)
    · rw [if_neg c, if_neg c]
      (clear h hq ih h1 c; omega)
end DP
namespace DP
open PySem PySem.Spec PyProof.Rows L2
abbrev tl (x : Str) : List Nat := TL.tl x
def num (n : Int) : Str := Str.ofString (toString n)
/-- a word of a line -/
def WdOk (w : Str) : Prop := tl w ≠ [] ∧ 32 ∉ tl w ∧ 10 ∉ tl w ∧ (tl w).length ≤ 16
def isL (c : Nat) : Bool := (decide (65 ≤ c) && decide (c ≤ 90)) || (decide (97 ≤ c) && decide (c ≤ 122))
def isD (c : Nat) : Bool := decide (48 ≤ c) && decide (c ≤ 57)
def NameOk (w : Str) : Prop := ∃ c r, tl w = c :: r ∧ isL c = true ∧ (∀ x ∈ r, (isL x || isD x) = true) ∧ r.length ≤ 14
theorem isL_lt {c : Nat} (h : isL c = true) : 65 ≤ c ∧ c ≤ 122 := by
  unfold isL at h
  simp only [Bool.or_eq_true, Bool.and_eq_true, decide_eq_true_eq] at h
  omega
theorem isD_lt {c : Nat} (h : isD c = true) : 48 ≤ c ∧ c ≤ 57 := by
  unfold isD at h
  simp only [Bool.and_eq_true, decide_eq_true_eq] at h
  omega
theorem sign_lt {c : Nat} (h : (isL c || isD c) = true) : 48 ≤ c ∧ c ≤ 122 := by
  rcases Bool.or_eq_true _ _ ▸ h with h | h
  · have := isL_lt h; omega
  · have := isD_lt h; omega
theorem NameOk.signs {w : Str} (h : NameOk w) : ∀ c ∈ tl w, (isL c || isD c) = true := by
  obtain ⟨c, r, e, hc, hr, _⟩ := h
  intro x hx
  rw [e] at hx
  rcases List.mem_cons.mp hx with rfl | hx
  · rw [hc]; rfl
  · exact hr x hx
theorem NameOk.wd {w : Str} (h : NameOk w) : WdOk w := by
  have hs := h.signs
  obtain ⟨c, r, e, hc, hr, hl⟩ := h
  refine ⟨by rw [e]; exact List.cons_ne_nil _ _, fun z => ?_, fun z => ?_, by rw [e, List.length_cons]; omega⟩
  · have := sign_lt (hs _ z); omega
  · have := sign_lt (hs _ z); omega
theorem num_nat {n : Int} (h : 0 ≤ n) : tl (num n) = TL.numL n.toNat := by
  have e : n = ((n.toNat : Nat) : Int) := by omega
  unfold num
  rw [e]
  exact TL.tl_num _
theorem numL_len7 {n : Nat} (h : n < 10000000) : (TL.numL n).length ≤ 7 := TL.numL_len (k := 7) (by decide) (by omega)
theorem num_wd {n : Int} (h0 : 0 ≤ n) (h1 : n < 10000000) : WdOk (num n) := by
  refine ⟨?_, ?_, ?_, ?_⟩
  · rw [num_nat h0]; exact TL.numL_ne _
  · rw [num_nat h0]; exact TL.numL_free (by omega)
  · rw [num_nat h0]; exact TL.numL_free (by omega)
  · rw [num_nat h0]; exact Nat.le_trans (numL_len7 (by omega)) (by decide)
/-- 0, or no 0 ahead -/
theorem numL_head {n : Nat} : ∀ r, TL.numL n = 48 :: r → n = 0 := by
  induction n using Nat.strongRecOn with
  | _ n ih =>
    intro r h
    by_cases c : n < 10
    · rw [TL.numL_lt c] at h
      have := (List.cons.inj h).1
      omega
    · rw [TL.numL_step (by omega)] at h
      cases q : TL.numL (n / 10) with
      | nil => exact absurd q (TL.numL_ne _)
      | cons a b =>
        rw [q] at h
        have e := (List.cons.inj h).1
        have := ih (n / 10) (by omega) b (by rw [q, e])
        omega
theorem num_inj {m n : Int} (hm : 0 ≤ m) (hn : 0 ≤ n) (h : num m = num n) : m = n := by
  have e : tl (num m) = tl (num n) := congrArg tl h
  rw [num_nat hm, num_nat hn] at e
  have := TL.numL_inj e
  omega
def sp : Str := Str.ofString " "
def nl : Str := Str.ofString "\n"
theorem tl_sp : tl sp = [32] := by decide +kernel
theorem tl_nl : tl nl = [10] := by decide +kernel
def row (ws : List Str) : Str := Str.join sp ws
theorem joinL_free {c : Nat} {S : List Nat} (hS : c ∉ S) : ∀ ps : List (List Nat), (∀ p ∈ ps, c ∉ p) → c ∉ TL.joinL S ps
  | [], _ => List.not_mem_nil
  | [p], h => h p List.mem_cons_self
  | p :: q :: r, h => by
    show c ∉ p ++ (S ++ TL.joinL S (q :: r))
    have ih := joinL_free hS (q :: r) fun x hx => h x (List.mem_cons_of_mem _ hx)
    intro z
    rcases List.mem_append.mp z with z | z
    · exact h p List.mem_cons_self z
    · rcases List.mem_append.mp z with z | z
      · exact hS z
      · exact ih z
theorem joinL_len {m : Nat} {S : List Nat} : ∀ ps : List (List Nat), (∀ p ∈ ps, p.length ≤ m) → (TL.joinL S ps).length ≤ ps.length * (m + S.length)
  | [], _ => Nat.zero_le _
  | [p], h => by
    have := h p List.mem_cons_self
    show p.length ≤ 1 * (m + S.length)
    omega
  | p :: q :: r, h => by
    have ih := joinL_len (S := S) (q :: r) fun x hx => h x (List.mem_cons_of_mem _ hx)
    have h1 := h p List.mem_cons_self
    show (p ++ (S ++ TL.joinL S (q :: r))).length ≤ ((q :: r).length + 1) * (m + S.length)
    rw [List.length_append, List.length_append, Nat.add_mul]
    omega
theorem row_free {ws : List Str} (h : ∀ w ∈ ws, WdOk w) : 10 ∉ tl (row ws) := by
  unfold row
  rw [show tl (Str.join sp ws) = TL.joinL (tl sp) (ws.map tl) from TL.tl_join sp ws]
  refine joinL_free (by rw [tl_sp]; decide) _ fun p hp => ?_
  obtain ⟨w, hw, rfl⟩ := List.mem_map.mp hp
  exact (h w hw).2.2.1
theorem row_len {ws : List Str} (h : ∀ w ∈ ws, WdOk w) : (row ws).length ≤ ws.length * 17 := by
  rw [TL.len_tl]
  unfold row
  rw [show TL.tl (Str.join sp ws) = TL.joinL (tl sp) (ws.map tl) from TL.tl_join sp ws]
  have := joinL_len (m := 16) (S := tl sp) (ws.map tl) fun p hp => by
    obtain ⟨w, hw, rfl⟩ := List.mem_map.mp hp
    exact (h w hw).2.2.2
  rw [List.length_map, tl_sp] at this
  rw [tl_sp]
  exact this
theorem row_split {ws : List Str} (hn : ws ≠ []) (h : ∀ w ∈ ws, WdOk w) : Txt.split (row ws) sp = ws := by
  have e := TL.split_join (y := sp) (s := 32) (S := []) tl_sp (by decide +kernel) hn (fun p hp => (h p hp).2.1)
  rw [TL.join_eq] at e
  exact e
/-- the text of rows, each with its newline -/
def glue (rows : List Str) : Str := Str.join nl (rows ++ [Str.empty])
theorem glue_split {rows : List Str} (h : ∀ r ∈ rows, 10 ∉ tl r) : Txt.split (glue rows) nl = rows ++ [Str.empty] := by
  have e := TL.split_join (y := nl) (s := 10) (S := []) tl_nl (by decide +kernel) (parts := rows ++ [Str.empty]) (by simp) (fun p hp => by
    rcases List.mem_append.mp hp with hp | hp
    · exact h p hp
    · rw [List.mem_singleton.mp hp]
      exact List.not_mem_nil)
  rw [TL.join_eq] at e
  exact e
theorem glue_tl : ∀ rows : List Str, tl (glue rows) = (rows.map fun r => tl r ++ [10]).flatten
  | [] => rfl
  | [r] => by
    show tl (r ++ nl ++ Str.empty) = tl r ++ [10] ++ []
    rw [show tl (r ++ nl ++ Str.empty) = tl (r ++ nl) ++ tl Str.empty from TL.tl_append _ _, show tl (r ++ nl) = tl r ++ tl nl from TL.tl_append _ _, tl_nl]
    rfl
  | r :: q :: z => by
    have ih := glue_tl (q :: z)
    show tl (r ++ nl ++ Str.join nl ((q :: z) ++ [Str.empty])) = tl r ++ [10] ++ ((q :: z).map fun r => tl r ++ [10]).flatten
    rw [show tl (r ++ nl ++ Str.join nl ((q :: z) ++ [Str.empty])) = tl (r ++ nl) ++ tl (Str.join nl ((q :: z) ++ [Str.empty])) from TL.tl_append _ _, show tl (r ++ nl) = tl r ++ tl nl from TL.tl_append _ _, tl_nl, ← ih]
    rfl
theorem glue_len {rows : List Str} {m : Nat} (h : ∀ r ∈ rows, r.length ≤ m) : (glue rows).length ≤ (rows.length + 1) * (m + 1) := by
  rw [TL.len_tl]
  unfold glue
  rw [show TL.tl (Str.join nl (rows ++ [Str.empty])) = TL.joinL (tl nl) ((rows ++ [Str.empty]).map tl) from TL.tl_join _ _]
  have := joinL_len (m := m) (S := tl nl) ((rows ++ [Str.empty]).map tl) fun p hp => by
    obtain ⟨w, hw, rfl⟩ := List.mem_map.mp hp
    rcases List.mem_append.mp hw with hw | hw
    · have := h w hw
      rw [TL.len_tl] at this
      exact this
    · rw [List.mem_singleton.mp hw]
      exact Nat.zero_le _
  rw [List.length_map, List.length_append, tl_nl] at this
  rw [tl_nl]
  exact this
structure SatD where
  name : Str
  store : Int
  battery : Int
  level : Int
  reserve : Int
  charge : Int
  settle : Int
  light : List (Int × Int)
structure StaD where
  name : Str
  antennas : Int
  turn : Int
structure RecD where
  name : Str
  sat : Nat
  earliest : Int
  latest : Int
  length : Int
  size : Int
  energy : Int
  worth : Int
  rank : Int
  deadline : Int
structure PasD where
  name : Str
  sat : Nat
  sta : Nat
  first : Int
  fin : Int
  room : Int
  energy : Int
  fee : Int
structure WorldD where
  horizon : Int
  sats : List SatD
  stas : List StaD
  recs : List RecD
  pass : List PasD
def lightW : List (Int × Int) → List Str
  | [] => []
  | q :: r => num q.1 :: num q.2 :: lightW r
def wHor (h : Int) : List Str := [Str.ofString "horizon", num h]
def wSat (s : SatD) : List Str := [Str.ofString "satellite", s.name, Str.ofString "store", num s.store, Str.ofString "battery", num s.battery, Str.ofString "level", num s.level,
  Str.ofString "reserve", num s.reserve, Str.ofString "charge", num s.charge, Str.ofString "settle", num s.settle, Str.ofString "light"] ++ lightW s.light
def wSta (s : StaD) : List Str := [Str.ofString "station", s.name, Str.ofString "antennas", num s.antennas, Str.ofString "turn", num s.turn]
def satN (W : WorldD) (i : Nat) : Str := ((W.sats.map (·.name))[i]?).getD Str.empty
def staN (W : WorldD) (i : Nat) : Str := ((W.stas.map (·.name))[i]?).getD Str.empty
def wRec (W : WorldD) (r : RecD) : List Str := [Str.ofString "recording", r.name, Str.ofString "by", satN W r.sat, Str.ofString "from", num r.earliest, Str.ofString "to", num r.latest,
  Str.ofString "length", num r.length, Str.ofString "size", num r.size, Str.ofString "energy", num r.energy, Str.ofString "worth", num r.worth, Str.ofString "rank", num r.rank, Str.ofString "until", num r.deadline]
def wPas (W : WorldD) (p : PasD) : List Str := [Str.ofString "pass", p.name, Str.ofString "by", satN W p.sat, Str.ofString "over", staN W p.sta, Str.ofString "from", num p.first, Str.ofString "to", num p.fin,
  Str.ofString "room", num p.room, Str.ofString "energy", num p.energy, Str.ofString "fee", num p.fee]
def linesW (W : WorldD) : List (List Str) := wHor W.horizon :: (W.sats.map wSat ++ W.stas.map wSta ++ W.recs.map (wRec W) ++ W.pass.map (wPas W))
def textW (W : WorldD) : Str := glue ((linesW W).map row)
def LightOk : Int → Int → List (Int × Int) → Prop
  | _, _, [] => True
  | least, h, q :: r => least ≤ q.1 ∧ q.1 + 1 ≤ q.2 ∧ q.2 ≤ h ∧ LightOk q.2 h r
structure SatOk (h : Int) (s : SatD) : Prop where
  name : NameOk s.name
  store : 0 ≤ s.store ∧ s.store ≤ 1000000
  battery : 0 ≤ s.battery ∧ s.battery ≤ 1000000
  level : 0 ≤ s.level ∧ s.level ≤ s.battery
  reserve : 0 ≤ s.reserve ∧ s.reserve ≤ s.level
  charge : 0 ≤ s.charge ∧ s.charge ≤ 1000
  settle : 0 ≤ s.settle ∧ s.settle ≤ 60
  light : LightOk 0 h s.light
structure StaOk (s : StaD) : Prop where
  name : NameOk s.name
  antennas : 1 ≤ s.antennas ∧ s.antennas ≤ 3
  turn : 0 ≤ s.turn ∧ s.turn ≤ 60
structure RecOk (W : WorldD) (r : RecD) : Prop where
  name : NameOk r.name
  sat : r.sat < W.sats.length
  earliest : 0 ≤ r.earliest ∧ r.earliest ≤ W.horizon - 1
  latest : r.earliest ≤ r.latest ∧ r.latest ≤ r.earliest + 20 ∧ r.latest ≤ W.horizon - 1
  length : 1 ≤ r.length ∧ r.length ≤ W.horizon - r.latest
  size : 0 ≤ r.size ∧ r.size ≤ 1000000
  energy : 0 ≤ r.energy ∧ r.energy ≤ 1000000
  worth : 1 ≤ r.worth ∧ r.worth ≤ 1000
  rank : 1 ≤ r.rank ∧ r.rank ≤ 3
  deadline : 0 ≤ r.deadline ∧ r.deadline ≤ W.horizon
structure PasOk (W : WorldD) (p : PasD) : Prop where
  name : NameOk p.name
  sat : p.sat < W.sats.length
  sta : p.sta < W.stas.length
  first : 0 ≤ p.first ∧ p.first ≤ W.horizon - 1
  fin : p.first + 1 ≤ p.fin ∧ p.fin ≤ W.horizon
  room : 0 ≤ p.room ∧ p.room ≤ 1000000
  energy : 0 ≤ p.energy ∧ p.energy ≤ 1000000
  fee : 0 ≤ p.fee ∧ p.fee ≤ 1000
structure WorldOk (W : WorldD) : Prop where
  horizon : 1 ≤ W.horizon ∧ W.horizon ≤ 500
  nSats : W.sats.length ≤ 3
  nStas : W.stas.length ≤ 3
  nRecs : W.recs.length ≤ 10
  nPass : W.pass.length ≤ 10
  dSats : (W.sats.map (·.name)).Nodup
  dStas : (W.stas.map (·.name)).Nodup
  dRecs : (W.recs.map (·.name)).Nodup
  dPass : (W.pass.map (·.name)).Nodup
  sats : ∀ s ∈ W.sats, SatOk W.horizon s
  stas : ∀ s ∈ W.stas, StaOk s
  recs : ∀ r ∈ W.recs, RecOk W r
  pass : ∀ p ∈ W.pass, PasOk W p
theorem LightOk.len {h : Int} : ∀ {l : List (Int × Int)} {least : Int}, LightOk least h l → least ≤ h → (l.length : Int) ≤ h - least
  | [], least, _, hl => by show (0 : Int) ≤ h - least; omega
  | q :: r, least, ⟨h1, h2, h3, h4⟩, hl => by
    have := h4.len h3
    rw [List.length_cons]
    omega
theorem LightOk.wd {h : Int} (hh : h ≤ 500) : ∀ {l : List (Int × Int)} {least : Int}, 0 ≤ least → LightOk least h l → ∀ w ∈ lightW l, WdOk w
  | [], _, _, _, w, hw => absurd hw List.not_mem_nil
  | q :: r, least, h0, ⟨h1, h2, h3, h4⟩, w, hw => by
    rcases List.mem_cons.mp hw with rfl | hw
    · exact num_wd (by omega) (by omega)
    · rcases List.mem_cons.mp hw with rfl | hw
      · exact num_wd (by omega) (by omega)
      · exact h4.wd hh (by omega) w hw
theorem lightW_len : ∀ l : List (Int × Int), (lightW l).length = 2 * l.length
  | [] => rfl
  | q :: r => by
    show (lightW r).length + 1 + 1 = 2 * (r.length + 1)
    rw [lightW_len r]
    omega
theorem satN_at {W : WorldD} {i : Nat} (h : i < W.sats.length) : (W.sats.map (·.name))[i]? = some (satN W i) := by
  unfold satN
  rw [List.getElem?_eq_getElem (by rw [List.length_map]; exact h)]
  rfl
theorem staN_at {W : WorldD} {i : Nat} (h : i < W.stas.length) : (W.stas.map (·.name))[i]? = some (staN W i) := by
  unfold staN
  rw [List.getElem?_eq_getElem (by rw [List.length_map]; exact h)]
  rfl
theorem satN_ok {W : WorldD} (w : WorldOk W) {i : Nat} (h : i < W.sats.length) : NameOk (satN W i) := by
  obtain ⟨s, hs, e⟩ := List.mem_map.mp (List.mem_of_getElem? (satN_at h))
  rw [← e]
  exact (w.sats s hs).name
theorem staN_ok {W : WorldD} (w : WorldOk W) {i : Nat} (h : i < W.stas.length) : NameOk (staN W i) := by
  obtain ⟨s, hs, e⟩ := List.mem_map.mp (List.mem_of_getElem? (staN_at h))
  rw [← e]
  exact (w.stas s hs).name
/-- all of a list, one by one -/
theorem all_cons {P : Str → Prop} {a : Str} {l : List Str} (h : P a) (t : ∀ w ∈ l, P w) : ∀ w ∈ a :: l, P w := fun w hw => by
  rcases List.mem_cons.mp hw with rfl | hw
  · exact h
  · exact t w hw
theorem all_nil {P : Str → Prop} : ∀ w ∈ ([] : List Str), P w := fun w hw => absurd hw List.not_mem_nil
theorem all_app {P : Str → Prop} {a b : List Str} (h : ∀ w ∈ a, P w) (t : ∀ w ∈ b, P w) : ∀ w ∈ a ++ b, P w := fun w hw => (List.mem_append.mp hw).elim (h w) (t w)
theorem wHor_wd {W : WorldD} (w : WorldOk W) : ∀ x ∈ wHor W.horizon, WdOk x :=
  all_cons (by unfold WdOk; decide +kernel) (all_cons (num_wd (by have := w.horizon; omega) (by have := w.horizon; omega)) all_nil)
theorem wSat_wd {h : Int} (hh : h ≤ 500) {s : SatD} (w : SatOk h s) : ∀ x ∈ wSat s, WdOk x := by
  have h1 := w.store; have h2 := w.battery; have h3 := w.level; have h4 := w.reserve; have h5 := w.charge; have h6 := w.settle
  exact all_app (all_cons (by unfold WdOk; decide +kernel) (all_cons w.name.wd (all_cons (by unfold WdOk; decide +kernel) (all_cons (num_wd (by omega) (by omega)) (all_cons (by unfold WdOk; decide +kernel) (all_cons (num_wd (by (clear hh w h1 h3 h4 h5 h6; omega)) (by (clear hh w h1 h3 h4 h5 h6; omega)))
    (all_cons (by unfold WdOk; decide +kernel) (all_cons (num_wd (by (clear hh w h1 h2 h4 h5 h6; omega)) (by (clear hh w h1 h4 h5 h6; omega))) (all_cons (by unfold WdOk; decide +kernel) (all_cons (num_wd (by (clear hh w h1 h2 h3 h5 h6; omega)) (by (clear hh w h1 h5 h6; omega))) (all_cons (by unfold WdOk; decide +kernel) (all_cons (num_wd (by (clear hh w h1 h2 h3 h4 h6; omega)) (by (clear hh w h1 h2 h3 h4 h6; omega)))
    (all_cons (by unfold WdOk; decide +kernel) (all_cons (num_wd (by (clear hh w h1 h2 h3 h4 h5; omega)) (by (clear hh w h1 h2 h3 h4 h5; omega))) (all_cons (by unfold WdOk; decide +kernel) all_nil))))))))))))))) (w.light.wd hh (Int.le_refl 0))
theorem wSta_wd {s : StaD} (w : StaOk s) : ∀ x ∈ wSta s, WdOk x := by
  have h1 := w.antennas; have h2 := w.turn
  exact all_cons (by unfold WdOk; decide +kernel) (all_cons w.name.wd (all_cons (by unfold WdOk; decide +kernel) (all_cons (num_wd (by omega) (by omega)) (all_cons (by unfold WdOk; decide +kernel) (all_cons (num_wd (by omega) (by omega)) all_nil)))))
theorem wRec_wd {W : WorldD} (w : WorldOk W) {r : RecD} (k : RecOk W r) : ∀ x ∈ wRec W r, WdOk x := by
  have h0 := w.horizon; have h1 := k.earliest; have h2 := k.latest; have h3 := k.length; have h4 := k.size; have h5 := k.energy; have h6 := k.worth; have h7 := k.rank; have h8 := k.deadline
  exact all_cons (by unfold WdOk; decide +kernel) (all_cons k.name.wd (all_cons (by unfold WdOk; decide +kernel) (all_cons (satN_ok w k.sat).wd
    (all_cons (by unfold WdOk; decide +kernel) (all_cons (num_wd (by omega) (by omega)) (all_cons (by unfold WdOk; decide +kernel) (all_cons (num_wd (by omega) (by omega)) (all_cons (by unfold WdOk; decide +kernel) (all_cons (num_wd (by (clear w k h0 h1 h2 h4 h5 h6 h7 h8; omega)) (by omega))
    (all_cons (by unfold WdOk; decide +kernel) (all_cons (num_wd (by (clear w k h0 h1 h2 h3 h5 h6 h7 h8; omega)) (by (clear w k h0 h1 h2 h3 h5 h6 h7 h8; omega))) (all_cons (by unfold WdOk; decide +kernel) (all_cons (num_wd (by (clear w k h0 h1 h2 h3 h4 h6 h7 h8; omega)) (by (clear w k h0 h1 h2 h3 h4 h6 h7 h8; omega))) (all_cons (by unfold WdOk; decide +kernel) (all_cons (num_wd (by (clear w k h0 h1 h2 h3 h4 h5 h7 h8; omega)) (by (clear w k h0 h1 h2 h3 h4 h5 h7 h8; omega)))
    (all_cons (by unfold WdOk; decide +kernel) (all_cons (num_wd (by (clear w k h0 h1 h2 h3 h4 h5 h6 h8; omega)) (by (clear w k h0 h1 h2 h3 h4 h5 h6 h8; omega))) (all_cons (by unfold WdOk; decide +kernel) (all_cons (num_wd (by (clear w k h0 h1 h2 h3 h4 h5 h6 h7; omega)) (by (clear w k h1 h2 h3 h4 h5 h6 h7; omega))) all_nil)))))))))))))))))))
theorem wPas_wd {W : WorldD} (w : WorldOk W) {p : PasD} (k : PasOk W p) : ∀ x ∈ wPas W p, WdOk x := by
  have h0 := w.horizon; have h1 := k.first; have h2 := k.fin; have h3 := k.room; have h4 := k.energy; have h5 := k.fee
  exact all_cons (by unfold WdOk; decide +kernel) (all_cons k.name.wd (all_cons (by unfold WdOk; decide +kernel) (all_cons (satN_ok w k.sat).wd (all_cons (by unfold WdOk; decide +kernel) (all_cons (staN_ok w k.sta).wd
    (all_cons (by unfold WdOk; decide +kernel) (all_cons (num_wd (by omega) (by omega)) (all_cons (by unfold WdOk; decide +kernel) (all_cons (num_wd (by omega) (by omega)) (all_cons (by unfold WdOk; decide +kernel) (all_cons (num_wd (by (clear w k h0 h1 h2 h4 h5; omega)) (by (clear w k h0 h1 h2 h4 h5; omega)))
    (all_cons (by unfold WdOk; decide +kernel) (all_cons (num_wd (by (clear w k h0 h1 h2 h3 h5; omega)) (by (clear w k h0 h1 h2 h3 h5; omega))) (all_cons (by unfold WdOk; decide +kernel) (all_cons (num_wd (by (clear w k h0 h1 h2 h3 h4; omega)) (by (clear w k h0 h1 h2 h3 h4; omega))) all_nil)))))))))))))))
theorem linesW_ok {W : WorldD} (w : WorldOk W) : ∀ l ∈ linesW W, l ≠ [] ∧ (∀ x ∈ l, WdOk x) ∧ l.length ≤ 1015 := by
  intro l hl
  unfold linesW at hl
  rcases List.mem_cons.mp hl with rfl | hl
  · exact ⟨List.cons_ne_nil _ _, wHor_wd w, by show 2 ≤ 1015; decide⟩
  rcases List.mem_append.mp hl with hl | hl
  · rcases List.mem_append.mp hl with hl | hl
    · rcases List.mem_append.mp hl with hl | hl
      · obtain ⟨s, hs, rfl⟩ := List.mem_map.mp hl
        have k := w.sats s hs
        refine ⟨List.cons_ne_nil _ _, wSat_wd w.horizon.2 k, ?_⟩
        have h1 := k.light.len (by have := w.horizon; omega)
        have h2 := w.horizon
        have h3 := lightW_len s.light
        have h4 : (wSat s).length = 15 + (lightW s.light).length := by
          unfold wSat
          rw [List.length_append]
          rfl
        omega
      · obtain ⟨s, hs, rfl⟩ := List.mem_map.mp hl
        exact ⟨List.cons_ne_nil _ _, wSta_wd (w.stas s hs), by show 6 ≤ 1015; decide⟩
    · obtain ⟨s, hs, rfl⟩ := List.mem_map.mp hl
      exact ⟨List.cons_ne_nil _ _, wRec_wd w (w.recs s hs), by show 20 ≤ 1015; decide⟩
  · obtain ⟨s, hs, rfl⟩ := List.mem_map.mp hl
    exact ⟨List.cons_ne_nil _ _, wPas_wd w (w.pass s hs), by show 16 ≤ 1015; decide⟩
theorem linesW_len {W : WorldD} (w : WorldOk W) : (linesW W).length ≤ 27 := by
  have h1 := w.nSats; have h2 := w.nStas; have h3 := w.nRecs; have h4 := w.nPass
  unfold linesW
  rw [List.length_cons, List.length_append, List.length_append, List.length_append, List.length_map, List.length_map, List.length_map, List.length_map]
  omega
theorem textW_len {W : WorldD} (w : WorldOk W) : (textW W).length ≤ 1000000 := by
  have h1 := glue_len (rows := (linesW W).map row) (m := 17255) fun r hr => by
    obtain ⟨l, hl, rfl⟩ := List.mem_map.mp hr
    have h2 := row_len (linesW_ok w l hl).2.1
    have h3 := (linesW_ok w l hl).2.2
    omega
  have h2 := linesW_len w
  rw [List.length_map] at h1
  have h3 : ((linesW W).length + 1) * (17255 + 1) ≤ 28 * 17256 := Nat.mul_le_mul_right _ (by omega)
  show (glue _).length ≤ _
  omega
end DP
namespace DP
open PySem PySem.Spec PyProof.Rows L2
/-- the list at a as it stands at each turn, each item in a new pair with the count from k on -/
def IteS (K : PySem.W.Frag) (a : Addr) (k : Int) : It :=
  ⟨fun i H => ∃ (xs : List V) (x : V), SqL K H a xs ∧ xs[i]? = some x,
   fun i H v H' => ∃ T x, v = .ref T ∧ H T = none ∧ H' = upd H T (.tup [.int (k + (i : Nat)), x]) ∧ ∀ xs, SqL K H a xs → xs[i]? = some x,
   fun i H => ∃ xs : List V, SqL K H a xs ∧ xs.length ≤ i⟩
theorem list_not_iter {h : Heap} {a it : Addr} {its : Array Value} {i : Nat} (l : h.IsList a its) (r : h.IsListIter it a i) : a ≠ it := fun z => by
  obtain ⟨o, ho, hc, _⟩ := l
  obtain ⟨o', ho', hc', _⟩ := r
  rw [z, ho'] at ho
  cases ho
  rw [hc] at hc'
  exact absurd hc' (by decide)
theorem turn_enumS {P : Program} {w : World} {K : PySem.W.Frag} {elts : List Expr} {kk : Nat} {tpos : Pos} (a en it : Addr) (k : Int) :
    Turn P w K (.Tuple elts kk tpos) (IteS K a k) [en, it] en (fun i h => (∃ old, IsEnum h en it (k + ((i : Nat) : Int)) old) ∧ h.IsListIter it a i ∧ en ≠ it) where
  mem := by simp
  obj := fun i h st b hb => by
    obtain ⟨⟨old, hen⟩, ⟨o, ho, hc, hd⟩, _⟩ := st
    have two : b = en ∨ b = it := by simpa using hb
    rcases two with z | z
    · subst z
      exact ⟨_, hen, fun v q => nomatch q⟩
    · subst z
      exact ⟨o, ho, fun v q => by rw [hd] at q; cases q⟩
  keep := fun i h h' st kp => by
    obtain ⟨⟨old, hen⟩, hi, hne⟩ := st
    exact ⟨⟨old, kp en (by simp) _ hen⟩, hi.at fun o q => kp it (by simp) o q, hne⟩
  item := by
    intro X hP hw hK hc i pins s σ H E I hf st hg
    subst hP hw hK
    obtain ⟨⟨old, hen⟩, hit, hne⟩ := st
    obtain ⟨xs, x, hq, hx⟩ := hg
    obtain ⟨its, rv, pl, hz⟩ := I.list hq
    obtain ⟨u, hu, ru⟩ := rv.get hx
    have en_lt : en < s.heap.objs.size := Heap.lt_size hen
    have it_lt : it < s.heap.objs.size := by
      obtain ⟨_, q, _⟩ := hit
      exact Heap.lt_size q
    have nel := list_not_iter pl.isList hit
    have Dr := Draws.list (prog := X.prog) (w := X.w) (A := X.A.in1) (I.ok.hd hc) it a nel its.toArray
    have hi : i < its.toArray.size := by
      have := (List.getElem?_eq_some_iff.mp hu).1
      simpa using this
    by_cases ea : en = a
    · exfalso
      obtain ⟨o, ho, hc', _⟩ := pl.isList
      rw [← ea, hen] at ho
      cases ho
      have e : Value.type "enumerate" = Value.type "list" := hc'
      exact absurd e (by decide)
    refine wpAny_pyNext_enum_itemC Dr hen ⟨hit, pl.isList⟩ hi hne (by simp [hne, ea]) fun x' h' tk hP ho hit' hT hsz hk => ?_
    have ex : x' = u := by
      have e1 : its.toArray[i]? = some x' := hP
      have e2 : its.toArray[i]? = some u := by simpa using hu
      exact Option.some.inj (e1.symm.trans e2)
    subst ex
    refine ⟨_, rfl, wpAny_letOwnedTupleGo_enum (s := { s with heap := h', toks := tk + 1 }) ho fun h2 hen2 sb => ?_⟩
    have hT2 : h2.get? s.heap.objs.size = some { cls := .type "tuple", data := .seq #[.int (k + (i : Int)) tk, x'] } :=
      (sb.2 _ (Nat.ne_of_gt en_lt)).trans hT
    have fresh : H s.heap.objs.size = none := I.hok.fresh (Nat.le_refl _)
    have new : ObjOk X.prog X.w (upd H s.heap.objs.size (.tup [.int (k + (i : Nat)), x])) h2 s.heap.objs.size (.tup [.int (k + (i : Nat)), x]) :=
      ⟨(by show 2 ≤ sizeLine; decide), [.int (k + (i : Int)) tk, x'], .cons ⟨_, rfl⟩ (.cons ru .nil), ⟨_, hT2, rfl, _, rfl⟩⟩
    have keepAll : ∀ b ob, b ∉ [en, it] → s.heap.get? b = some ob → h2.get? b = some ob := fun b ob hb q => by
      have n1 : b ≠ en := fun z => hb (by simp [z])
      have n2 : b ≠ it := fun z => hb (by simp [z])
      exact (sb.2 b n1).trans (hk b ob n1 n2 q)
    have I1 := I.turnedNew (t' := tk + 1) (ch := [en, it]) keepAll hf (Nat.le_refl _) new
    refine ⟨.ref s.heap.objs.size, _, I1, rfl, ⟨_, x, rfl, fresh, rfl, fun ys hy => ?_⟩, ⟨⟨x', ?_⟩, ?_, hne⟩, fun b hb => ?_⟩
    · rw [I.list_inj hy hq]
      exact hx
    · have e1 : k + ((i + 1 : Nat) : Int) = k + (i : Int) + 1 := by (clear hc I hf hen hit hne hq hx rv pl hz en_lt it_lt nel Dr hi ea hP ho hit' hT hsz hk hu ru hen2 sb hT2 fresh new keepAll I1; omega)
      rw [e1]
      exact hen2
    · exact hit'.1.at fun o q => (sb.2 it (Ne.symm hne)).trans q
    · have hb' : b < s.heap.objs.size := by
        have two : b = en ∨ b = it := by simpa using hb
        rcases two with z | z
        · rw [z]; exact en_lt
        · rw [z]; exact it_lt
      rw [upd_ne (Nat.ne_of_lt hb')]
      exact (hf b hb).1
  done := by
    intro X hP hw hK hc i pins s σ H E I hf st hg
    subst hP hw hK
    obtain ⟨⟨old, hen⟩, hit, hne⟩ := st
    obtain ⟨xs, hq, hx⟩ := hg
    obtain ⟨its, rv, pl, hz⟩ := I.list hq
    have hl := rv.length
    obtain ⟨f0, f1, f2, f3, f4, f5⟩ := hf it (by simp)
    have hT : s.TypeIs (.ref en) "enumerate" := ⟨_, hen, rfl⟩
    unfold pyNext
    refine wpAny_bind (wpAny_attempt (wpAny_callSpecial?_slot (name := Str.ofString "__next__") hT F.slot_enumerate_next
      (wpAny_call_entry F.slot_enumerate_next hT F.entry_enumerate_next ?_
        (F.args_enumerate_next_1 _))))
    show wpAny _ _ (field (.ref en) 2 >>= _) _ _ _
    refine wpAny_bind (wpAny_field hen rfl (x := .ref it) rfl ?_)
    refine wpAny_bind (wpAny_nextOf_list_end (I.ok.hd hc) hit pl.isList (by simp; omega) fun h' e eb hcl => ?_)
    obtain ⟨o, ho, hcs⟩ := hcl
    refine wpAny_bind (wpAny_isInstance (T := "StopIteration") (b := true) ⟨o, ho, hcs⟩ isSubtype_stop ?_)
    exact wpAny_pure ⟨rfl, I.turned (t' := s.toks) (fun b o hb q => eb b o hb q) f0 f1 f3 f4 f5⟩
  self := fun A i s Q E st h => let ⟨⟨_, hen⟩, _⟩ := st; wpAny_pyIter_enum hen h
/-- enumerate(xs, start=k), walked into a written tuple of names -/
def iEnumS (K : PySem.W.Frag) (ta tk : TA) : TI := fun σ H R => ta σ H fun vs H1 => tk σ H1 fun zs H2 =>
  ∃ a xs k, vs = [.ref a] ∧ zs = [.int k] ∧ SqL K H2 a xs ∧ -(2 ^ 63) ≤ k ∧ k < 2 ^ 63 ∧ R (IteS K a k) H2
theorem pi_enumS {X : Cx} {e ke : Expr} {ta tk : TA} {p pos tpos kp : Pos} {elts : List Expr} {kk : Nat} (hg : Gl X "enumerate") (hm : X.mg "enumerate" = none) (ha : PA X [e] ta) (hk : PK X [⟨some "start", ke, kp⟩] tk)
    (hs : starEach [e] X.env = (false, eval e X.env) :: starEach [] X.env := by rfl) (hpl : ((backTo pos (starEach [e] X.env)).any (·.1) || (backToKw pos (keywordEach [⟨some "start", ke, kp⟩] X.env)).any (·.1.isNone)) = false := by rfl) :
    PI X (.Tuple elts kk tpos) (.Call (.Name "enumerate" p) [e] [⟨some "start", ke, kp⟩] pos) (iEnumS X.K ta tk) := by
  refine ⟨fun pins s σ H R I h => ?_⟩
  refine wpAny_Call_Name_kw (ld_blt I hg hm boot_enumerate ?_)
  refine PySem.W.callWith_of (P := fun _ => True) hpl (fun h _ => ⟨.machine, .inr (.inl rfl), PySem.W.Looks.of_pure rfl⟩) (evalArgs_kw2 (by rfl)
    (thn (ha.run pos pins s σ H _ I h) fun us s1 ⟨vs, H1, I1, r1, q1⟩ => thn (hk.run pos pins s1 σ H1 _ I1 q1) fun ws s2 ⟨zs, H2, I2, r2, q2⟩ => ⟨True.intro, ?_⟩) hs)
  obtain ⟨a, xs, k, ex, ez, hq, b1, b2, q⟩ := q2
  subst ex ez
  obtain ⟨u, eu, ru⟩ := vals1 r1
  obtain ⟨z, ez, rz⟩ := vals1 r2
  subst eu ez
  cases ru
  obtain ⟨t, et⟩ := (show ∃ t, z = Value.int k t from rz)
  subst et
  obtain ⟨its, rv, pl, hz⟩ := I2.list hq
  show wpAny _ _ (call (.type "enumerate") [.ref a] [(Str.ofString "start", .int k t)]) _ _ _
  refine enum_begins_start (begins_list a its.toArray) pl.isList b1 b2 fun h' hen hit hsz hkp => wpAny_pyIter_enum hen ?_
  have I3 : Inv X pins σ H2 { s2 with heap := h' } := I2.kept (t' := s2.toks) hkp
  refine ⟨s2.heap.objs.size + 1, [s2.heap.objs.size + 1, s2.heap.objs.size], _, _, H2, rfl, I3, turn_enumS a (s2.heap.objs.size + 1) s2.heap.objs.size k,
    ⟨⟨.none, ?_⟩, ⟨_, hit, rfl, rfl⟩, Nat.succ_ne_self _⟩, fun b hb => ?_, q⟩
  · show IsEnum h' _ _ (k + 0) _
    rw [Int.add_zero]
    exact hen
  · have two : b = s2.heap.objs.size + 1 ∨ b = s2.heap.objs.size := by simpa using hb
    have hle : s2.heap.objs.size ≤ b := by
      rcases two with z | z
      · rw [z]; exact Nat.le_add_right _ 1
      · rw [z]; exact Nat.le_refl _
    exact I2.fpOk hle (I2.hok.fresh hle)
theorem walk_enumS {K : PySem.W.Frag} {a : Addr} {k : Int} {xs : List V} :
    Walk (IteS K a k) xs.length (fun H => SqL K H a xs) (fun i H v H' => ∃ T x, v = .ref T ∧ H T = none ∧ H' = upd H T (.tup [.int (k + (i : Nat)), x]) ∧ xs[i]? = some x) :=
  ⟨fun i H hi q => ⟨xs, xs[i], q, List.getElem?_eq_getElem hi⟩, fun H q => ⟨xs, q, Nat.le_refl _⟩, fun i H v H' hi q ⟨T, x, e1, e2, e3, e4⟩ => ⟨T, x, e1, e2, e3, e4 xs q⟩⟩
theorem same_mk {H H' : Hp} {x dx : Addr} {o u : HO} (hx : H x = none) (hd : H dx = none) (s : ∀ b v, b ≠ x → (upd (upd H dx o) x u) b = some v → H' b = some v) : Same H H' := fun b v e => by
  have n1 : b ≠ x := ne_of_none e hx
  exact s b v n1 (by rw [upd_ne n1, upd_ne (ne_of_none e hd)]; exact e)
end DP
namespace DP
open PySem PySem.Spec PyProof.Rows L2
structure ClsAt (K : PySem.W.Frag) (mg : Str → Option Value) (x : Str) (C : Addr) : Prop where
  cl : Cls K C
  mkC : PySem.W.makesIn K C = true
  kp : PySem.W.keepIn K (.ref C) = true
  gC : mg x = some (.ref C)
structure MAt (K : PySem.W.Frag) (C : Addr) (m qual : Str) (st : Stmt) (ps : List Str) : Prop where
  ex : ∃ f fd, Fun K m qual st f fd ∧ Meth K C m f ∧ Binds K fd ps []
structure MDef (P : Program) (w : World) (K : PySem.W.Frag) (mg : Str → Option Value) (base : Heap) (CX : CXT) (k : Nat) (C : Addr) (m : Str) (ps : List Str) (ds : List V) (sp : Sp) : Prop where
  ex : ∃ f fd us, FnOk P w K mg base CX k f fd ps sp ∧ Meth K C m f ∧ Binds K fd ps us ∧ Vals ds us
section
variable {X : Cx} {CX : CXT} {k : Nat} {C : Addr} {x m : Str} {ps : List Str} {ds : List V} {sp : Sp} {E : XK} {o e : Expr} {es : List Expr} {ta : TE} {t : TA} {p pos apos : Pos} {pl : Sem Bool}
theorem pe_m (D : MDef X.prog X.w X.K X.mg X.base CX k C m ps ds sp) (c : Cls X.K C) (hr : Room k X.A) (hx : Passes CX X E) (he : PE X o ta) (ha : PA X (e :: es) t)
    (hst : starEach (e :: es) X.env = (false, eval e X.env) :: starEach es X.env := by rfl) (hpl : (backTo pos (starEach es X.env)).any (·.1) = false := by rfl)
    (ht : eval (.Call (.Attribute o m apos) (e :: es) [] pos) X.env = (do
      let ov ← eval o X.env
      standAt apos.atName
      let (f, first) ← holding [ov] (getMethod ov m pl)
      callWith pos f first (backTo pos (starEach (e :: es) X.env)) (backToKw pos (keywordEach [] X.env))) := by rfl) :
    PE X (.Call (.Attribute o m apos) (e :: es) [] pos) (tMeth C m sp ds E ta t) := by
  obtain ⟨f, fd, us, G, M, b, v⟩ := D.ex
  exact pe_meth (pl := pl) he c M G hr b v hx ha hst hpl ht
theorem pe_m0 (D : MDef X.prog X.w X.K X.mg X.base CX k C m ps ds sp) (c : Cls X.K C) (hr : Room k X.A) (hx : Passes CX X E) (he : PE X o ta)
    (ht : eval (.Call (.Attribute o m apos) [] [] pos) X.env = (do
      let ov ← eval o X.env
      standAt apos.atName
      let (f, first) ← holding [ov] (getMethod ov m pl)
      callWith pos f first (backTo pos (starEach [] X.env)) (backToKw pos (keywordEach [] X.env))) := by rfl) :
    PE X (.Call (.Attribute o m apos) [] [] pos) (tMeth C m sp ds E ta tNil) := by
  obtain ⟨f, fd, us, G, M, b, v⟩ := D.ex
  exact pe_meth0 (pl := pl) he c M G hr b v hx ht
theorem pe_mk (D : MDef X.prog X.w X.K X.mg X.base CX k C "__init__" ps ds sp) (c : ClsAt X.K X.mg x C) (hr : Room (k + 1) X.A) (hx : Passes CX X E) (ha : PA X (e :: es) t) (hg : Gl X x := by rfl)
    (hdb : (x == ("__debug__" : Str)) = false := by decide) (he : starEach (e :: es) X.env = (false, eval e X.env) :: starEach es X.env := by rfl) (hpl : (backTo pos (starEach es X.env)).any (·.1) = false := by rfl) :
    PE X (.Call (.Name x p) (e :: es) [] pos) (tMake C sp ds E t) := by
  obtain ⟨f, fd, us, G, M, b, v⟩ := D.ex
  exact pe_make ⟨c.mkC, M.at_, M.fn, c.kp⟩ G hr hg c.gC b v hx ha hdb he hpl
/-- a constant of the module -/
theorem pe_gi {i : Int} (h : ∃ t, X.mg x = some (.int i t)) (hg : Gl X x := by rfl) (hd : (x == ("__debug__" : Str)) = false := by decide) : PE X (.Name x pos) (tC (.int i)) := by
  obtain ⟨t, h⟩ := h
  exact pe_glob hg h ⟨t, rfl⟩ hd
theorem pe_gs {z : Str} (h : ∃ t, X.mg x = some (.str z t)) (hg : Gl X x := by rfl) (hd : (x == ("__debug__" : Str)) = false := by decide) : PE X (.Name x pos) (tC (.str z)) := by
  obtain ⟨t, h⟩ := h
  exact pe_glob hg h ⟨t, rfl⟩ hd
theorem pe_ga {a : Addr} (h : X.mg x = some (.ref a)) (hg : Gl X x := by rfl) (hd : (x == ("__debug__" : Str)) = false := by decide) : PE X (.Name x pos) (tC (.ref a)) := pe_glob hg h rfl hd
end
/-- a method with one default -/
structure MAtD (K : PySem.W.Frag) (C : Addr) (m qual : Str) (st : Stmt) (ps : List Str) (ds : List V) : Prop where
  ex : ∃ f fd us, FunD K m qual (defArgs st) (defBody st) (defScope st) ds [] f fd ∧ Meth K C m f ∧ Binds K fd ps us ∧ Vals ds us
theorem pe_fldK {X : Cx} {K : PySem.W.Frag} (h : X.K = K) {e : Expr} {ta : TE} {f : Str} {pos : Pos} (he : PE X e ta) (hb : attributeBase e f X.env (eval e X.env) = eval e X.env) : PE X (.Attribute e f pos) (tFld K ta f) := by
  subst h
  exact pe_fld he hb
theorem pg_tupK {X : Cx} {K : PySem.W.Frag} (h : X.K = K) {es : List Expr} {k n : Nat} {pos : Pos} {g : TGs} (hc : X.calm = true) (hs : PGs X es g)
    (hn : (assignEach es X.env).length = n := by rfl) (hst : (assignEach es X.env).findIdx? (·.1) = none := by rfl) : PG X (.Tuple es k pos) (gTup K n g) := by
  subst h
  exact pg_tup hc hs hn hst
section
variable {P : Program} {w : World} {K : PySem.W.Frag} {mg : Str → Option Value} {base : Heap} {C : Addr} {m qual : Str} {st : Stmt} {ps N : List Str} {k : Nat} {sp sp' : Sp} {ds : List V}
theorem MAt.ok (F : MAt K C m qual st ps) (S : FnScope N ps (defScope st)) (len : ∀ vs H Q E, sp vs H Q E → vs.length = ps.length)
    (hbody : ∀ (f : Addr) (cdv : Value) (A : Around) (outer : List Env) (s : Shared) (H : Hp) (vs : List V) (Q : VK) (E : XK), Room k (A.deeper (envOfC qual (defScope st) s.heap.objs.size f cdv)) → sp vs H Q E →
      ∃ t, PSs (cxOf CX0 P w K mg base N qual (defScope st) f cdv A outer s H E).nox (defBody st) t ∧ t { nx := fun _ H' => Q .non H', rt := Q } (start N vs) H) : MDef P w K mg base CX0 (k + 1) C m ps [] sp := by
  obtain ⟨f, fd, G, M, b⟩ := F.ex
  exact ⟨f, fd, [], G.ok S len (fun cdv A outer s H vs Q E hr h => hbody f cdv A outer s H vs Q E hr h), M, b, .nil⟩
theorem MAtD.ok (F : MAtD K C m qual st ps ds) (S : FnScope N ps (defScope st)) (len : ∀ vs H Q E, sp vs H Q E → vs.length = ps.length)
    (hbody : ∀ (f : Addr) (cdv : Value) (A : Around) (outer : List Env) (s : Shared) (H : Hp) (vs : List V) (Q : VK) (E : XK), Room k (A.deeper (envOfC qual (defScope st) s.heap.objs.size f cdv)) → sp vs H Q E →
      ∃ t, PSs (cxOf CX0 P w K mg base N qual (defScope st) f cdv A outer s H E).nox (defBody st) t ∧ t { nx := fun _ H' => Q .non H', rt := Q } (start N vs) H) : MDef P w K mg base CX0 (k + 1) C m ps ds sp := by
  obtain ⟨f, fd, us, G, M, b, v⟩ := F.ex
  refine ⟨f, fd, us, G.ok S len (fun cdv A outer s H vs Q E hr h => ?_), M, b, v⟩
  obtain ⟨t, h1, h2⟩ := hbody f cdv A outer s H vs Q E hr h
  exact ⟨t, h1.nox, h2⟩
end
theorem lk_hit {a : Str} {b : V} {es : List (Str × V)} : List.lookup a ((a, b) :: es) = some b := by
  unfold List.lookup
  rw [beq_self_eq_true]
theorem lk_miss {a k : Str} {b : V} {es : List (Str × V)} (h : (a == k) = false) : List.lookup a ((k, b) :: es) = List.lookup a es := by
  show (match a == k with | true => some b | false => List.lookup a es) = _
  rw [h]
theorem put_hit {f : Str} {v x : V} {r : List (Str × V)} : putF f v ((f, x) :: r) = (f, v) :: r := by
  show (if f = f then _ else _) = _
  rw [if_pos rfl]
theorem put_miss {f g : Str} {v x : V} {r : List (Str × V)} (h : (g == f) = false) : putF f v ((g, x) :: r) = (g, x) :: putF f v r := by
  have h1 : ¬ g = f := fun z => by
    rw [z, beq_self_eq_true] at h
    cases h
  show (if g = f then _ else _) = _
  rw [if_neg h1]
theorem put_nil {f : Str} {v : V} : putF f v [] = [(f, v)] := rfl
theorem put_lt {f : Str} {v : V} {k m : Nat} : ∀ {fs : List (Str × V)}, fs.length + (k + 1) < m → (putF f v fs).length + k < m
  | [], h => by
    show 1 + k < m
    have : 0 + (k + 1) < m := h
    omega
  | (g, x) :: r, h => by
    rw [List.length_cons] at h
    show (if g = f then (g, v) :: r else (g, x) :: putF f v r).length + k < m
    by_cases c : g = f
    · rw [if_pos c, List.length_cons]
      omega
    · rw [if_neg c, List.length_cons]
      have := put_lt (f := f) (v := v) (k := k + 1) (m := m) (fs := r) (by omega)
      omega
theorem put_lt0 {f : Str} {v : V} {m : Nat} {fs : List (Str × V)} (h : fs.length + 1 < m) : (putF f v fs).length < m := put_lt (k := 0) h
theorem ins_ne {H : Hp} {a b C D dx dy : Addr} {fs gs : List (Str × V)} (h : H a = some (.ins C dx fs)) (h' : H b = some (.ins D dy gs)) (n : fs.length ≠ gs.length) : a ≠ b := fun z => by
  rw [z, h'] at h
  injection h with h
  injection h with h1 h2 h3
  exact n (by rw [h3])
/-- all that stood but a is as it was -/
def SameX (a : Addr) (H H' : Hp) : Prop := ∀ b o, b ≠ a → H b = some o → H' b = some o
theorem SameX.refl (a : Addr) (H : Hp) : SameX a H H := fun _ _ _ h => h
theorem SameX.trans {a : Addr} {H H1 H2 : Hp} (x : SameX a H H1) (y : SameX a H1 H2) : SameX a H H2 := fun b o n h => y b o n (x b o n h)
theorem SameX.of {a : Addr} {H H' : Hp} (s : Same H H') : SameX a H H' := fun b o _ h => s b o h
theorem SameX.upd {a : Addr} {H : Hp} {o : HO} : SameX a H (L2.upd H a o) := fun b u n h => by rw [upd_ne n]; exact h
theorem SameX.at_ {a : Addr} {H H' : Hp} {o : HO} (x : SameX a H H') : SameX a H (L2.upd H' a o) := fun b u n h => by rw [upd_ne n]; exact x b u n h
end DP
namespace DP
open PySem PySem.Spec PyProof.Rows L2
def topS (i : Nat) : Stmt := PySem.Challenge.pw_downpass_k54_bounds.main.body.getD i (.Pass ⟨0, 0, 0, 0⟩)
end DP
namespace DP
open PySem PySem.Spec PyProof.Rows L2
abbrev s_lines_of : Stmt := topS 14
theorem sc_lines_of : FnScope ["text", "rows", "last", "number", "row"] ["text"] (defScope s_lines_of) := ⟨rfl, rfl, rfl, by decide +kernel, rfl, by decide +kernel, by decide +kernel⟩
abbrev s_is_name : Stmt := topS 15
theorem sc_is_name : FnScope ["word", "letter"] ["word"] (defScope s_is_name) := ⟨rfl, rfl, rfl, by decide +kernel, rfl, by decide +kernel, by decide +kernel⟩
abbrev s_is_number : Stmt := topS 16
theorem sc_is_number : FnScope ["word", "letter"] ["word"] (defScope s_is_number) := ⟨rfl, rfl, rfl, by decide +kernel, rfl, by decide +kernel, by decide +kernel⟩
abbrev s_Line___init__ : Stmt := inClass (topS 17) 0
theorem sc_Line___init__ : FnScope ["self", "number", "row"] ["self", "number", "row"] (defScope s_Line___init__) := ⟨rfl, rfl, rfl, by decide +kernel, rfl, by decide +kernel, by decide +kernel⟩
abbrev s_Line_has_more : Stmt := inClass (topS 17) 2
theorem sc_Line_has_more : FnScope ["self"] ["self"] (defScope s_Line_has_more) := ⟨rfl, rfl, rfl, by decide +kernel, rfl, by decide +kernel, by decide +kernel⟩
abbrev s_Line_due : Stmt := inClass (topS 17) 3
theorem sc_Line_due : FnScope ["self", "word"] ["self"] (defScope s_Line_due) := ⟨rfl, rfl, rfl, by decide +kernel, rfl, by decide +kernel, by decide +kernel⟩
abbrev s_Line_step : Stmt := inClass (topS 17) 4
theorem sc_Line_step : FnScope ["self"] ["self"] (defScope s_Line_step) := ⟨rfl, rfl, rfl, by decide +kernel, rfl, by decide +kernel, by decide +kernel⟩
abbrev s_Line_read_choice : Stmt := inClass (topS 17) 5
theorem sc_Line_read_choice : FnScope ["self", "choices", "word"] ["self", "choices"] (defScope s_Line_read_choice) := ⟨rfl, rfl, rfl, by decide +kernel, rfl, by decide +kernel, by decide +kernel⟩
abbrev s_Line_read_number : Stmt := inClass (topS 17) 6
theorem sc_Line_read_number : FnScope ["self", "least", "most", "word", "number"] ["self", "least", "most"] (defScope s_Line_read_number) := ⟨rfl, rfl, rfl, by decide +kernel, rfl, by decide +kernel, by decide +kernel⟩
abbrev s_Line_read_field : Stmt := inClass (topS 17) 7
theorem sc_Line_read_field : FnScope ["self", "word", "least", "most"] ["self", "word", "least", "most"] (defScope s_Line_read_field) := ⟨rfl, rfl, rfl, by decide +kernel, rfl, by decide +kernel, by decide +kernel⟩
abbrev s_Line_due_name : Stmt := inClass (topS 17) 8
theorem sc_Line_due_name : FnScope ["self", "word"] ["self"] (defScope s_Line_due_name) := ⟨rfl, rfl, rfl, by decide +kernel, rfl, by decide +kernel, by decide +kernel⟩
abbrev s_Line_read_new_name : Stmt := inClass (topS 17) 9
theorem sc_Line_read_new_name : FnScope ["self", "used", "word"] ["self", "used"] (defScope s_Line_read_new_name) := ⟨rfl, rfl, rfl, by decide +kernel, rfl, by decide +kernel, by decide +kernel⟩
abbrev s_Line_read_known_name : Stmt := inClass (topS 17) 10
theorem sc_Line_read_known_name : FnScope ["self", "names", "least", "word", "number"] ["self", "names", "least"] (defScope s_Line_read_known_name) := ⟨rfl, rfl, rfl, by decide +kernel, rfl, by decide +kernel, by decide +kernel⟩
abbrev s_Line_finish : Stmt := inClass (topS 17) 11
theorem sc_Line_finish : FnScope ["self"] ["self"] (defScope s_Line_finish) := ⟨rfl, rfl, rfl, by decide +kernel, rfl, by decide +kernel, by decide +kernel⟩
def lnF (n : Int) (wl : Addr) (r : Nat) (c : Int) : List (Str × V) := [("number", .int n), ("words", .ref wl), ("read", .int r), ("column", .int c)]
theorem lnF_words {n : Int} {wl : Addr} {r : Nat} {c : Int} : (lnF n wl r c).lookup ("words" : Str) = some (.ref wl) := by unfold lnF; exact (lk_miss (by decide +kernel)).trans lk_hit
theorem lnF_read {n : Int} {wl : Addr} {r : Nat} {c : Int} : (lnF n wl r c).lookup ("read" : Str) = some (.int r) := by
  unfold lnF; exact (lk_miss (by decide +kernel)).trans ((lk_miss (by decide +kernel)).trans lk_hit)
theorem lnF_column {n : Int} {wl : Addr} {r : Nat} {c : Int} : (lnF n wl r c).lookup ("column" : Str) = some (.int c) := by
  unfold lnF; exact (lk_miss (by decide +kernel)).trans ((lk_miss (by decide +kernel)).trans ((lk_miss (by decide +kernel)).trans lk_hit))
theorem lnF_no {n : Int} {wl : Addr} {r : Nat} {c : Int} {m : Str} (h1 : (m == ("number" : Str)) = false) (h2 : (m == ("words" : Str)) = false) (h3 : (m == ("read" : Str)) = false) (h4 : (m == ("column" : Str)) = false) : (lnF n wl r c).lookup m = none := by
  unfold lnF
  exact (lk_miss h1).trans ((lk_miss h2).trans ((lk_miss h3).trans ((lk_miss h4).trans rfl)))
theorem lnF_put_column {n : Int} {wl : Addr} {r : Nat} {c d : Int} : putF "column" (.int d) (lnF n wl r c) = lnF n wl r d := by
  unfold lnF
  rw [put_miss (by decide +kernel), put_miss (by decide +kernel), put_miss (by decide +kernel), put_hit]
theorem lnF_put_read {n : Int} {wl : Addr} {r q : Nat} {c : Int} : putF "read" (.int q) (lnF n wl r c) = lnF n wl q c := by
  unfold lnF
  rw [put_miss (by decide +kernel), put_miss (by decide +kernel), put_hit]
/-- the line at a, its words ws, r of them passed -/
structure LnAt (C : Addr) (H : Hp) (a : Addr) (ws : List Str) (r : Nat) : Prop where
  ex : ∃ dx n wl c, H a = some (.ins C dx (lnF n wl r c)) ∧ H wl = some (.lst (ws.map V.str))
  ok : ∀ w ∈ ws, WdOk w
theorem LnAt.same {C : Addr} {H H' : Hp} {a : Addr} {ws : List Str} {r : Nat} (h : LnAt C H a ws r) (s : Same H H') : LnAt C H' a ws r := by
  obtain ⟨dx, n, wl, c, h1, h2⟩ := h.ex
  exact ⟨⟨dx, n, wl, c, s _ _ h1, s _ _ h2⟩, h.ok⟩
theorem map_at {ws : List Str} {i : Nat} {w : Str} (h : ws[i]? = some w) : atI (ws.map V.str) (i : Int) = some (.str w) := atI_nat (by rw [List.getElem?_map, h]; rfl)
theorem wd_ne {w : Str} (h : WdOk w) : ¬ w = Str.ofString "" := fun z => h.1 (by rw [z]; decide +kernel)
theorem wd_len {w : Str} (h : WdOk w) : w.length ≤ 16 := by rw [TL.len_tl]; exact h.2.2.2
/-- what the text tells of the class Line and its module -/
structure TxtL (K : PySem.W.Frag) (mg : Str → Option Value) (C : Addr) : Prop where
  B : Bt mg
  c_Line : ClsAt K mg "Line" C
  n_number : NoAttr K C "number"
  n_words : NoAttr K C "words"
  n_read : NoAttr K C "read"
  n_column : NoAttr K C "column"
  g_LETTERS : ∃ t, mg "LETTERS" = some (.str "abcdefghijklmnopqrstuvwxyzABCDEFGHIJKLMNOPQRSTUVWXYZ" t)
  g_DIGITS : ∃ t, mg "DIGITS" = some (.str "0123456789" t)
  g_MOST_NAME : ∃ t, mg "MOST_NAME" = some (.int 15 t)
  g_MOST_DIGITS : ∃ t, mg "MOST_DIGITS" = some (.int 7 t)
section
variable {P : Program} {w : World} {K : PySem.W.Frag} {mg : Str → Option Value} {base : Heap} {C : Addr}
def spLnInit (C : Addr) : Sp := fun vs H Q _ => ∃ (x dx : Addr) (n : Int) (ws : List Str), vs = [.ref x, .int n, .str (row ws)] ∧ H x = some (.ins C dx []) ∧ ws ≠ [] ∧ (∀ w ∈ ws, WdOk w) ∧ ws.length ≤ 2000 ∧
  ∀ H', SameX x H H' → LnAt C H' x ws 0 → Q .non H'
theorem d_Line_init (T : TxtL K mg C) (A : MAt K C "__init__" "Line.__init__" s_Line___init__ ["self", "number", "row"]) : MDef P w K mg base CX0 1 C "__init__" ["self", "number", "row"] [] (spLnInit C) := by
  refine A.ok sc_Line___init__ (fun vs H Q E h => ?_) (fun f cdv A outer s H vs Q E hr h => ?_)
  · obtain ⟨x, dx, n, ws, rfl, _⟩ := h
    rfl
  obtain ⟨x, dx, n, ws, rfl, hx, hn, hok, hlen, q⟩ := h
  refine ⟨_, pss_cons (ps_fld (pv 0) (pv 1) rfl)
  (pss_cons (ps_fld (pv 0) (pe_split (pv 2) pe_str) rfl)
  (pss_cons (ps_fld (pv 0) pe_int rfl)
  (pss_one (ps_fld (pv 0) pe_int rfl))))
    , ?_⟩
  have hl := row_len hok
  refine ⟨_, rfl, _, rfl, x, C, dx, _, rfl, hx, T.c_Line.cl, T.n_number, (by show 0 < 1000; decide), ?_⟩
  refine ⟨_, rfl, ⟨_, rfl⟩, _, sp, rfl, rfl, by decide +kernel, Nat.le_trans (Nat.add_le_add_right (Nat.le_trans hl (Nat.mul_le_mul_right 17 hlen)) 2) (by decide), fun wl hwl => ?_⟩
  have exw : x ≠ wl := fun z => by
    rw [← z, upd_same] at hwl
    cases hwl
  refine ⟨_, rfl, x, C, dx, _, rfl, (upd_ne exw).trans upd_same, T.c_Line.cl, T.n_words, (by repeat (first | refine put_lt0 ?_ | refine put_lt ?_ | (show _ < _; decide))), ?_⟩
  refine ⟨_, rfl, x, C, dx, _, rfl, upd_same, T.c_Line.cl, T.n_read, (by repeat (first | refine put_lt0 ?_ | refine put_lt ?_ | (show _ < _; decide))), ?_⟩
  refine ⟨_, rfl, x, C, dx, _, rfl, upd_same, T.c_Line.cl, T.n_column, (by repeat (first | refine put_lt0 ?_ | refine put_lt ?_ | (show _ < _; decide))), ?_⟩
  have hwl0 : H wl = none := by
    rw [upd_ne exw.symm] at hwl
    exact hwl
  refine q _ (fun b o nb hb => ?_) ⟨⟨dx, n, wl, 1, ?_, ?_⟩, hok⟩
  · rw [upd_ne nb, upd_ne nb, upd_ne nb, upd_ne (ne_of_none hb hwl0), upd_ne nb]
    exact hb
  · rw [upd_same]
    unfold lnF
    repeat (first | rw [put_nil] | rw [put_miss (by decide +kernel)])
    rfl
  · rw [upd_ne exw.symm, upd_ne exw.symm, upd_ne exw.symm, upd_same, row_split hn hok]
def spHasMore (C : Addr) : Sp := fun vs H Q _ => ∃ (a : Addr) (ws : List Str) (r : Nat), vs = [.ref a] ∧ LnAt C H a ws r ∧ Q (.bl (decide (r < ws.length))) H
theorem d_has_more (T : TxtL K mg C) (A : MAt K C "has_more" "Line.has_more" s_Line_has_more ["self"]) : MDef P w K mg base CX0 1 C "has_more" ["self"] [] (spHasMore C) := by
  have B := T.B
  refine A.ok sc_Line_has_more (fun vs H Q E h => ?_) (fun f cdv A outer s H vs Q E hr h => ?_)
  · obtain ⟨a, ws, r, rfl, _⟩ := h
    rfl
  obtain ⟨a, ws, r, rfl, hL, q⟩ := h
  obtain ⟨dx, n, wl, c, h1, h2⟩ := hL.ex
  refine ⟨_, pss_one (ps_ret (pe_cmpR op_lt (pe_fld (pv 0) rfl) (pe_callB (call_len_seq) (by rfl) B.len (by decide +kernel) (pa_cons (pe_fld (pv 0) rfl) pa_nil)) (nomark _)))
    , ?_⟩
  refine ⟨_, rfl, a, C, dx, _, _, rfl, h1, T.c_Line.cl, T.n_read, lnF_read, _, rfl, a, C, dx, _, _, rfl, h1, T.c_Line.cl, T.n_words, lnF_words, wl, _, rfl, .inl (SqL.of h2), _, _, rfl, rfl, ?_⟩
  have e : decide ((r : Int) < (((ws.map V.str).length : Nat) : Int)) = decide (r < ws.length) := by
    rw [List.length_map]
    exact decide_eq_decide.mpr (by omega)
  show Q (.bl (decide ((r : Int) < (((ws.map V.str).length : Nat) : Int)))) H
  rw [e]
  exact q
def spDue (C : Addr) : Sp := fun vs H Q _ => ∃ (a : Addr) (ws : List Str) (r : Nat) (u : Str), vs = [.ref a] ∧ LnAt C H a ws r ∧ ws[r]? = some u ∧ Q (.str u) H
theorem d_due (T : TxtL K mg C) (D_Line_has_more : MDef P w K mg base CX0 1 C "has_more" ["self"] [] (spHasMore C)) (A : MAt K C "due" "Line.due" s_Line_due ["self"]) : MDef P w K mg base CX0 2 C "due" ["self"] [] (spDue C) := by
  have B := T.B
  refine A.ok sc_Line_due (fun vs H Q E h => ?_) (fun f cdv A outer s H vs Q E hr h => ?_)
  · obtain ⟨a, ws, r, u, rfl, _⟩ := h
    rfl
  obtain ⟨a, ws, r, u, rfl, hL, hu, q⟩ := h
  obtain ⟨dx, n, wl, c, h1, h2⟩ := hL.ex
  have hr' : r < ws.length := (List.getElem?_eq_some_iff.mp hu).1
  refine ⟨_, pss_cons (ps_if (pt_not (pt_val (pe_m0 D_Line_has_more T.c_Line.cl (hr.mono (by omega)) pass0 (pv 0))))
      (pss_one (ps_never))
      (pss_nil))
  (pss_cons (ps_set (i := 1) sc_Line_due.nd rfl (Or.inl rfl) (pe_ix ix_list (pe_fld (pv 0) rfl) (pe_fld (pv 0) rfl) (fun _ _ => rfl)))
  (pss_cons (ps_if (pt_cmpR op_eq (pv 1) pe_str (nomark _))
      (pss_one (ps_never))
      (pss_nil))
  (pss_one (ps_ret (pv 1)))))
    , ?_⟩
  refine ⟨_, rfl, a, dx, _, rfl, h1, lnF_no (by decide +kernel) (by decide +kernel) (by decide +kernel) (by decide +kernel), a, ws, r, rfl, hL, _, rfl, iteF' (by rw [decide_eq_true hr']; rfl) ?_⟩
  refine ⟨_, rfl, a, C, dx, _, _, rfl, h1, T.c_Line.cl, T.n_words, lnF_words, _, rfl, a, C, dx, _, _, rfl, h1, T.c_Line.cl, T.n_read, lnF_read, wl, _, _, _, rfl, rfl, SqL.of h2, map_at hu, ?_⟩
  refine ⟨_, rfl, rfl, _, rfl, iteF' (decide_eq_false fun z => wd_ne (hL.ok u (List.mem_of_getElem? hu)) (V.str.inj z)) ?_⟩
  exact ⟨_, rfl, q⟩
def spStep (C : Addr) : Sp := fun vs H Q _ => ∃ (a : Addr) (ws : List Str) (r : Nat), vs = [.ref a] ∧ LnAt C H a ws r ∧ r < ws.length ∧ ∀ H', SameX a H H' → LnAt C H' a ws (r + 1) → Q .non H'
theorem d_step (T : TxtL K mg C) (A : MAt K C "step" "Line.step" s_Line_step ["self"]) : MDef P w K mg base CX0 1 C "step" ["self"] [] (spStep C) := by
  have B := T.B
  refine A.ok sc_Line_step (fun vs H Q E h => ?_) (fun f cdv A outer s H vs Q E hr h => ?_)
  · obtain ⟨a, ws, r, rfl, _⟩ := h
    rfl
  obtain ⟨a, ws, r, rfl, hL, hr', q⟩ := h
  obtain ⟨dx, n, wl, c, h1, h2⟩ := hL.ex
  have hu : ws[r]? = some ws[r] := List.getElem?_eq_getElem hr'
  have ea : wl ≠ a := ne_of h2 h1 (fun z => nomatch z)
  have hw := wd_len (hL.ok _ (List.getElem_mem hr'))
  refine ⟨_, pss_cons (ps_fldaug (pv 0) (pe_op op_add (pe_callB (call_len_str) (by rfl) B.len (by decide +kernel) (pa_cons (pe_ix ix_list (pe_fld (pv 0) rfl) (pe_fld (pv 0) rfl) (fun _ _ => rfl)) pa_nil)) pe_int) in_add)
  (pss_one (ps_fldaug (pv 0) pe_int in_add))
    , ?_⟩
  refine ⟨_, rfl, a, C, dx, _, _, rfl, h1, T.c_Line.cl, T.n_column, lnF_column, _, rfl, a, C, dx, _, _, rfl, h1, T.c_Line.cl, T.n_words, lnF_words, _, rfl, a, C, dx, _, _, rfl, h1, T.c_Line.cl, T.n_read, lnF_read, wl, _, _, _, rfl, rfl, SqL.of h2, map_at hu, ?_⟩
  refine ⟨_, rfl, Nat.le_trans hw (by decide), _, _, rfl, rfl, _, _, rfl, rfl, dx, _, h1, (by show 4 < 1000; decide), ?_⟩
  rw [lnF_put_column]
  refine ⟨_, rfl, a, C, dx, _, _, rfl, upd_same, T.c_Line.cl, T.n_read, lnF_read, _, _, rfl, rfl, dx, _, upd_same, (by show 4 < 1000; decide), ?_⟩
  rw [show ((r : Int) + 1) = ((r + 1 : Nat) : Int) by omega, lnF_put_read, upd_upd]
  exact q _ SameX.upd ⟨⟨dx, n, wl, _, upd_same, by rw [upd_ne ea]; exact h2⟩, hL.ok⟩
def spChoice (K : PySem.W.Frag) (C : Addr) : Sp := fun vs H Q _ => ∃ (a : Addr) (ws : List Str) (r : Nat) (t : Addr) (cs : List Str) (u : Str), vs = [.ref a, .ref t] ∧ LnAt C H a ws r ∧ SqT K H t (cs.map V.str) ∧ ws[r]? = some u ∧ u ∈ cs ∧
  ∀ H', SameX a H H' → LnAt C H' a ws (r + 1) → Q (.str u) H'
theorem inV_str {u : Str} {cs : List Str} : inV (.str u) (cs.map V.str) = decide (u ∈ cs) := by
  unfold inV
  rw [List.any_map]
  induction cs with
  | nil => rfl
  | cons c r ih =>
    rw [List.any_cons, ih]
    show (decide (c = u) || decide (u ∈ r)) = decide (u ∈ c :: r)
    rw [← Bool.decide_or]
    refine decide_eq_decide.mpr ⟨fun z => ?_, fun z => ?_⟩
    · rcases z with z | z
      · rw [z]; exact List.mem_cons_self
      · exact List.mem_cons_of_mem _ z
    · rcases List.mem_cons.mp z with z | z
      · exact .inl z.symm
      · exact .inr z
theorem flat_strs {cs : List Str} : (cs.map V.str).all flatV = true := by
  rw [List.all_map]
  exact List.all_eq_true.mpr fun _ _ => rfl
theorem d_read_choice (T : TxtL K mg C) (D_Line_due : MDef P w K mg base CX0 2 C "due" ["self"] [] (spDue C)) (D_Line_step : MDef P w K mg base CX0 1 C "step" ["self"] [] (spStep C))
    (A : MAt K C "read_choice" "Line.read_choice" s_Line_read_choice ["self", "choices"]) : MDef P w K mg base CX0 3 C "read_choice" ["self", "choices"] [] (spChoice K C) := by
  have B := T.B
  refine A.ok sc_Line_read_choice (fun vs H Q E h => ?_) (fun f cdv A outer s H vs Q E hr h => ?_)
  · obtain ⟨a, ws, r, t, cs, u, rfl, _⟩ := h
    rfl
  obtain ⟨a, ws, r, t, cs, u, rfl, hL, hT, hu, hc, q⟩ := h
  obtain ⟨dx, n, wl, c, h1, h2⟩ := hL.ex
  have hr' : r < ws.length := (List.getElem?_eq_some_iff.mp hu).1
  have no : ∀ {m : Str}, (m == ("number" : Str)) = false → (m == ("words" : Str)) = false → (m == ("read" : Str)) = false → (m == ("column" : Str)) = false → (lnF n wl r c).lookup m = none := fun z1 z2 z3 z4 => lnF_no z1 z2 z3 z4
  refine ⟨_, pss_cons (ps_set (i := 2) sc_Line_read_choice.nd rfl (Or.inl rfl) (pe_m0 D_Line_due T.c_Line.cl (hr.mono (by omega)) pass0 (pv 0)))
  (pss_cons (ps_if (pt_cmpR op_notIn_seq (pv 2) (pv 1) (by rfl))
      (pss_one (ps_never))
      (pss_nil))
  (pss_cons (ps_expr (pe_m0 D_Line_step T.c_Line.cl (hr.mono (by omega)) pass0 (pv 0)))
  (pss_one (ps_ret (pv 2)))))
    , ?_⟩
  refine ⟨_, rfl, a, dx, _, rfl, h1, no (by decide +kernel) (by decide +kernel) (by decide +kernel) (by decide +kernel), a, ws, r, u, rfl, hL, hu, ?_⟩
  refine ⟨_, rfl, _, rfl, t, _, rfl, .inr hT, rfl, flat_strs, _, rfl, iteF' (by rw [inV_str, decide_eq_true hc]; rfl) ?_⟩
  refine ⟨_, rfl, a, dx, _, rfl, h1, no (by decide +kernel) (by decide +kernel) (by decide +kernel) (by decide +kernel), a, ws, r, rfl, hL, hr', fun H' s' L' => ?_⟩
  exact ⟨_, rfl, q H' s' L'⟩
/-- a number's text -/
theorem dig_in {c : Nat} (h : 48 ≤ c ∧ c ≤ 57) : c ∈ ("0123456789" : Str).cps.toList := by
  have all : ∀ d, d < 58 → 48 ≤ d → d ∈ ("0123456789" : Str).cps.toList := by decide +kernel
  exact all c (by omega) h.1
def spIsNum : Sp := fun vs H Q _ => ∃ n : Int, vs = [.str (num n)] ∧ 0 ≤ n ∧ n < 10000000 ∧ ∀ H', Same H H' → Q (.bl true) H'
theorem str1_inj {a b : Nat} (h : (⟨#[a]⟩ : Str) = ⟨#[b]⟩) : a = b := by
  injection h with h
  injection h with h
  injection h
theorem d_is_number (T : TxtL K mg C) (A : At K mg "is_number" s_is_number ["word"]) : DefOk P w K mg base CX0 1 "is_number" ["word"] spIsNum := by
  have B := T.B
  refine A.ok sc_is_number (fun vs H Q E h => ?_) (fun f cdv A outer s H vs Q E hr h => ?_)
  · obtain ⟨n, rfl, _⟩ := h
    rfl
  obtain ⟨n, rfl, h0, h1, q⟩ := h
  refine ⟨_, pss_cons (ps_if (PW.pt (pw_or (pt_cmpR op_gt (pe_callB (call_len_str) (by rfl) B.len (by decide +kernel) (pa_cons (pv 0) pa_nil)) (pe_gi T.g_MOST_DIGITS) (nomark _)) (pw_or1 (PW.pt (pw_and (pt_cmpR op_eq (pe_ix ix_str (pv 0) pe_int (fun _ _ => rfl)) pe_str (nomark _)) (pw_and1 (pt_cmpR op_ne (pv 0) pe_str (nomark _))))))))
      (pss_one (ps_ret pe_bl))
      (pss_nil))
  (pss_one (ps_ret (pe_callB (cr_all rfl) (by rfl) B.all (by decide +kernel) (pa_cons (pe_lc (own := [("letter", 1)])  rfl sc_is_number.nd (pi_str (pv 0)) (blkOk_by (own := [("letter", 1)]) (N := ["word", "letter"]) (sc := defScope s_is_number) (by decide +kernel)) (fun _ _ _ _ _ => pg_name (i := 1) sc_is_number.nd rfl (Or.inl rfl)) (fun _ _ _ _ _ => pts_nil) (fun _ _ _ _ _ => (pe_cmpR op_in_sign (pv 1) (pe_gs T.g_DIGITS) (by rfl)))) pa_nil))))
    , ?_⟩
  have htl := num_nat h0
  have hlen : (num n).length ≤ 7 := by
    rw [TL.len_tl, show TL.tl (num n) = tl (num n) from rfl, htl]
    exact numL_len7 (by omega)
  cases hq : TL.numL n.toNat with
  | nil => exact absurd hq (TL.numL_ne _)
  | cons d ds =>
  have hd : atI (num n).cps.toList 0 = some d := by
    show atI (tl (num n)) 0 = some d
    rw [htl, hq]
    exact atI_nat (j := 0) rfl
  have all : ∀ c ∈ tl (num n), 48 ≤ c ∧ c ≤ 57 := fun c hc => by
    rw [htl] at hc
    exact TL.numL_digits _ c hc
  refine ⟨_, rfl, _, rfl, Nat.le_trans hlen (by decide), _, _, rfl, rfl, _, rfl, iteF' (decide_eq_false (by omega)) ?_⟩
  refine ⟨_, rfl, _, _, d, rfl, rfl, Nat.le_trans hlen (by decide), hd, rfl, _, rfl, ite2 (fun c => ?_) (fun c => ?_)⟩
  · -- a leading 0: it is 0
    have e0 : (⟨#[d]⟩ : Str) = Str.ofString "0" := V.str.inj (of_decide_eq_true c)
    have e1 : (Str.ofString "0" : Str) = ⟨#[48]⟩ := by decide +kernel
    have ed : d = 48 := str1_inj (e0.trans e1)
    have en : n.toNat = 0 := numL_head ds (by rw [hq, ed])
    have en2 : n = 0 := by omega
    subst en2
    refine ⟨_, rfl, rfl, _, rfl, iteF' (by rw [decide_eq_true (show (V.str (num 0) = V.str (Str.ofString "0")) from by decide +kernel)]; rfl) ?_⟩
    refine ⟨_, rfl, _, rfl, fun D hD => lc_it (walk_str) (fun i H' => Same H H' ∧ H' D = some (.lst ((List.replicate i true).map V.bl))) ⟨same_new hD _, upd_same⟩ (fun _ _ _ _ => True.intro) (fun i x H1 H2 hi hI hy => ?_) (fun H1 hI => ?_)⟩
    · obtain ⟨rfl, ch, hch, rfl⟩ := hy
      obtain ⟨hs, hDD⟩ := hI
      have hcm : ch ∈ tl (num 0) := by
        have : (num 0).cps.toList[i]? = some ch := by rw [Array.getElem?_toList]; exact hch
        exact List.mem_of_getElem? this
      refine ⟨rfl, _, rfl, ch, _, rfl, rfl, _, hDD, ?_, same_at hD hs _, ?_⟩
      · rw [List.length_map, List.length_replicate]
        have : (num 0).cps.size ≤ 7 := hlen
        exact small1000 (by (clear T B hr q c e0 e1 ed h0 h1 htl hlen hq hd all en hD hch hs hDD hcm; omega))
      · rw [upd_same, List.replicate_succ', List.map_append, decide_eq_true (dig_in (all ch hcm))]
        rfl
    · obtain ⟨hs, hDD⟩ := hI
      refine ⟨D, _, rfl, SqL.of hDD, ?_⟩
      rw [show (List.replicate (num 0).cps.size true).all id = true from List.all_eq_true.mpr fun b hb => by rw [List.eq_of_mem_replicate hb]; rfl]
      exact q H1 hs
  · refine iteF ?_
    refine ⟨_, rfl, _, rfl, fun D hD => lc_it (walk_str) (fun i H' => Same H H' ∧ H' D = some (.lst ((List.replicate i true).map V.bl))) ⟨same_new hD _, upd_same⟩ (fun _ _ _ _ => True.intro) (fun i x H1 H2 hi hI hy => ?_) (fun H1 hI => ?_)⟩
    · obtain ⟨rfl, ch, hch, rfl⟩ := hy
      obtain ⟨hs, hDD⟩ := hI
      have hcm : ch ∈ tl (num n) := by
        have : (num n).cps.toList[i]? = some ch := by rw [Array.getElem?_toList]; exact hch
        exact List.mem_of_getElem? this
      refine ⟨rfl, _, rfl, ch, _, rfl, rfl, _, hDD, ?_, same_at hD hs _, ?_⟩
      · rw [List.length_map, List.length_replicate]
        have : (num n).cps.size ≤ 7 := hlen
        exact small1000 (by (clear T B hr h0 h1 q htl hlen hq hd all c hD hch hs hDD hcm; omega))
      · rw [upd_same, List.replicate_succ', List.map_append, decide_eq_true (dig_in (all ch hcm))]
        rfl
    · obtain ⟨hs, hDD⟩ := hI
      refine ⟨D, _, rfl, SqL.of hDD, ?_⟩
      rw [show (List.replicate (num n).cps.size true).all id = true from List.all_eq_true.mpr fun b hb => by rw [List.eq_of_mem_replicate hb]; rfl]
      exact q H1 hs
def spNumber (C : Addr) : Sp := fun vs H Q _ => ∃ (a : Addr) (ws : List Str) (r : Nat) (lo hi n : Int), vs = [.ref a, .int lo, .int hi] ∧ LnAt C H a ws r ∧ ws[r]? = some (num n) ∧ 0 ≤ n ∧ n < 10000000 ∧ lo ≤ n ∧ n ≤ hi ∧
  ∀ H', SameX a H H' → LnAt C H' a ws (r + 1) → Q (.int n) H'
theorem int_of_num {n : Int} (h0 : 0 ≤ n) (h1 : n < 10000000) : PySem.intText? (num n) = some n ∧ (num n).length ≤ 640 := by
  have e : n = ((n.toNat : Nat) : Int) := by omega
  have hl := numL_len7 (n := n.toNat) (by omega)
  refine ⟨?_, ?_⟩
  · have h := TL.int_num (n := n.toNat) (Nat.le_trans hl (by decide))
    rw [← e] at h
    exact h
  · rw [TL.len_tl, show TL.tl (num n) = tl (num n) from rfl, num_nat h0]
    (clear h0 h1 e; omega)
theorem d_read_number (T : TxtL K mg C) (D_is_number : DefOk P w K mg base CX0 1 "is_number" ["word"] spIsNum) (D_Line_due : MDef P w K mg base CX0 2 C "due" ["self"] [] (spDue C)) (D_Line_step : MDef P w K mg base CX0 1 C "step" ["self"] [] (spStep C))
    (A : MAt K C "read_number" "Line.read_number" s_Line_read_number ["self", "least", "most"]) : MDef P w K mg base CX0 3 C "read_number" ["self", "least", "most"] [] (spNumber C) := by
  have B := T.B
  refine A.ok sc_Line_read_number (fun vs H Q E h => ?_) (fun f cdv A outer s H vs Q E hr h => ?_)
  · obtain ⟨a, ws, r, lo, hi, n, rfl, _⟩ := h
    rfl
  obtain ⟨a, ws, r, lo, hi, n, rfl, hL, hu, h0, hm, hlo, hhi, q⟩ := h
  obtain ⟨dx, nn, wl, c, h1, h2⟩ := hL.ex
  have hr' : r < ws.length := (List.getElem?_eq_some_iff.mp hu).1
  refine ⟨_, pss_cons (ps_set (i := 3) sc_Line_read_number.nd rfl (Or.inl rfl) (pe_m0 D_Line_due T.c_Line.cl (hr.mono (by omega)) pass0 (pv 0)))
  (pss_cons (ps_if (pt_not (pt_val (pe_f D_is_number (hr.mono (by omega)) pass0 (pa_cons (pv 3) pa_nil))))
      (pss_one (ps_never))
      (pss_nil))
  (pss_cons (ps_set (i := 4) sc_Line_read_number.nd rfl (Or.inl rfl) (pe_callTy (call_int_str) (by rfl) B.int (by decide +kernel) (pa_cons (pv 3) pa_nil)))
  (pss_cons (ps_if (PW.pt (pw_or (pt_cmpR op_lt (pv 4) (pv 1) (nomark _)) (pw_or1 (pt_cmpR op_gt (pv 4) (pv 2) (nomark _)))))
      (pss_one (ps_never))
      (pss_nil))
  (pss_cons (ps_expr (pe_m0 D_Line_step T.c_Line.cl (hr.mono (by omega)) pass0 (pv 0)))
  (pss_one (ps_ret (pv 4)))))))
    , ?_⟩
  refine ⟨_, rfl, a, dx, _, rfl, h1, lnF_no (by decide +kernel) (by decide +kernel) (by decide +kernel) (by decide +kernel), a, ws, r, _, rfl, hL, hu, ?_⟩
  refine ⟨_, rfl, n, rfl, h0, hm, fun H1 s1 => ⟨_, rfl, iteF ?_⟩⟩
  obtain ⟨i1, i2⟩ := int_of_num h0 hm
  refine ⟨_, rfl, _, n, rfl, i1, i2, ?_⟩
  refine ⟨_, rfl, _, rfl, _, _, rfl, rfl, _, rfl, iteF' (decide_eq_false (by omega)) ?_⟩
  refine ⟨_, rfl, _, rfl, _, _, rfl, rfl, _, rfl, iteF' (decide_eq_false (by omega)) ?_⟩
  refine ⟨_, rfl, a, dx, _, rfl, s1 _ _ h1, lnF_no (by decide +kernel) (by decide +kernel) (by decide +kernel) (by decide +kernel), a, ws, r, rfl, hL.same s1, hr', fun H' s' L' => ?_⟩
  exact ⟨_, rfl, q H' ((SameX.of s1).trans s') L'⟩
def spField (C : Addr) : Sp := fun vs H Q _ => ∃ (a : Addr) (ws : List Str) (r : Nat) (u : Str) (lo hi n : Int), vs = [.ref a, .str u, .int lo, .int hi] ∧ LnAt C H a ws r ∧ ws[r]? = some u ∧ ws[r + 1]? = some (num n) ∧ 0 ≤ n ∧ n < 10000000 ∧ lo ≤ n ∧ n ≤ hi ∧
  ∀ H', SameX a H H' → LnAt C H' a ws (r + 2) → Q (.int n) H'
theorem d_read_field (T : TxtL K mg C) (D_Line_read_choice : MDef P w K mg base CX0 3 C "read_choice" ["self", "choices"] [] (spChoice K C)) (D_Line_read_number : MDef P w K mg base CX0 3 C "read_number" ["self", "least", "most"] [] (spNumber C))
    (A : MAt K C "read_field" "Line.read_field" s_Line_read_field ["self", "word", "least", "most"]) : MDef P w K mg base CX0 4 C "read_field" ["self", "word", "least", "most"] [] (spField C) := by
  have B := T.B
  refine A.ok sc_Line_read_field (fun vs H Q E h => ?_) (fun f cdv A outer s H vs Q E hr h => ?_)
  · obtain ⟨a, ws, r, u, lo, hi, n, rfl, _⟩ := h
    rfl
  obtain ⟨a, ws, r, u, lo, hi, n, rfl, hL, hu, hn, h0, hm, hlo, hhi, q⟩ := h
  obtain ⟨dx, nn, wl, c, h1, h2⟩ := hL.ex
  refine ⟨_, pss_cons (ps_expr (pe_m D_Line_read_choice T.c_Line.cl (hr.mono (by omega)) pass0 (pv 0) (pa_cons (pe_tup (pa_cons (pv 1) pa_nil)) pa_nil)))
  (pss_one (ps_ret (pe_m D_Line_read_number T.c_Line.cl (hr.mono (by omega)) pass0 (pv 0) (pa_cons (pv 2) (pa_cons (pv 3) pa_nil)))))
    , ?_⟩
  refine ⟨_, rfl, a, dx, _, rfl, h1, lnF_no (by decide +kernel) (by decide +kernel) (by decide +kernel) (by decide +kernel), _, rfl, (by show 1 ≤ sizeLine; decide), fun t ht => ?_⟩
  have s1 : Same H (upd H t (.tup [.str u])) := same_new ht _
  refine ⟨a, ws, r, t, [u], u, rfl, hL.same s1, SqT.of upd_same, hu, List.mem_cons_self, fun H2 s2 L2 => ?_⟩
  obtain ⟨dx2, n2, wl2, c2, g1, g2⟩ := L2.ex
  refine ⟨_, rfl, a, dx2, _, rfl, g1, lnF_no (by decide +kernel) (by decide +kernel) (by decide +kernel) (by decide +kernel), _, rfl, _, rfl, a, ws, r + 1, lo, hi, n, rfl, L2, hn, h0, hm, hlo, hhi, fun H3 s3 L3 => ?_⟩
  exact q H3 (((SameX.of s1).trans s2).trans s3) L3
/-- a name's text -/
theorem let_in {c : Nat} (h : isL c = true) : c ∈ ("abcdefghijklmnopqrstuvwxyzABCDEFGHIJKLMNOPQRSTUVWXYZ" : Str).cps.toList := by
  have all : ∀ d, d < 123 → isL d = true → d ∈ ("abcdefghijklmnopqrstuvwxyzABCDEFGHIJKLMNOPQRSTUVWXYZ" : Str).cps.toList := by decide +kernel
  exact all c (by have := isL_lt h; omega) h
def spIsName : Sp := fun vs H Q _ => ∃ u : Str, vs = [.str u] ∧ NameOk u ∧ ∀ H', Same H H' → Q (.bl true) H'
theorem d_is_name (T : TxtL K mg C) (A : At K mg "is_name" s_is_name ["word"]) : DefOk P w K mg base CX0 1 "is_name" ["word"] spIsName := by
  have B := T.B
  refine A.ok sc_is_name (fun vs H Q E h => ?_) (fun f cdv A outer s H vs Q E hr h => ?_)
  · obtain ⟨u, rfl, _⟩ := h
    rfl
  obtain ⟨u, rfl, hu, q⟩ := h
  refine ⟨_, pss_cons (ps_if (PW.pt (pw_or (pt_cmpR op_gt (pe_callB (call_len_str) (by rfl) B.len (by decide +kernel) (pa_cons (pv 0) pa_nil)) (pe_gi T.g_MOST_NAME) (nomark _)) (pw_or1 (pt_cmpR op_notIn_sign (pe_ix ix_str (pv 0) pe_int (fun _ _ => rfl)) (pe_gs T.g_LETTERS) (by rfl)))))
      (pss_one (ps_ret pe_bl))
      (pss_nil))
  (pss_one (ps_ret (pe_callB (cr_all rfl) (by rfl) B.all (by decide +kernel) (pa_cons (pe_lc (own := [("letter", 1)])  rfl sc_is_name.nd (pi_str (pv 0)) (blkOk_by (own := [("letter", 1)]) (N := ["word", "letter"]) (sc := defScope s_is_name) (by decide +kernel)) (fun _ _ _ _ _ => pg_name (i := 1) sc_is_name.nd rfl (Or.inl rfl)) (fun _ _ _ _ _ => pts_nil) (fun _ _ _ _ _ => (pe_or (pe_cmpR op_in_sign (pv 1) (pe_gs T.g_LETTERS) (by rfl)) (pe_one (pe_cmpR op_in_sign (pv 1) (pe_gs T.g_DIGITS) (by rfl)))))) pa_nil))))
    , ?_⟩
  have signs := hu.signs
  obtain ⟨d, ds, e, hd, _, hl⟩ := hu
  have hlen : u.length ≤ 15 := by
    rw [TL.len_tl, show TL.tl u = tl u from rfl, e, List.length_cons]
    omega
  have hat : atI u.cps.toList 0 = some d := by
    show atI (tl u) 0 = some d
    rw [e]
    exact atI_nat (j := 0) rfl
  refine ⟨_, rfl, _, rfl, Nat.le_trans hlen (by decide), _, _, rfl, rfl, _, rfl, iteF' (decide_eq_false (by omega)) ?_⟩
  refine ⟨_, rfl, _, _, d, rfl, rfl, Nat.le_trans hlen (by decide), hat, d, _, rfl, rfl, _, rfl, iteF' (by rw [decide_eq_true (let_in hd)]; rfl) ?_⟩
  refine ⟨_, rfl, _, rfl, fun D hD => lc_it (walk_str) (fun i H' => Same H H' ∧ H' D = some (.lst ((List.replicate i true).map V.bl))) ⟨same_new hD _, upd_same⟩ (fun _ _ _ _ => True.intro) (fun i x H1 H2 hi hI hy => ?_) (fun H1 hI => ?_)⟩
  · obtain ⟨rfl, ch, hch, rfl⟩ := hy
    obtain ⟨hs, hDD⟩ := hI
    have hcm : ch ∈ tl u := by
      have : u.cps.toList[i]? = some ch := by rw [Array.getElem?_toList]; exact hch
      exact List.mem_of_getElem? this
    have room : ((List.replicate i true).map V.bl).length < sizeLine := by
      rw [List.length_map, List.length_replicate]
      have : u.cps.size ≤ 15 := hlen
      exact small1000 (by (clear T B hr q signs e hd hl hlen hat hD hch hs hDD hcm; omega))
    refine ⟨rfl, _, rfl, ch, _, rfl, rfl, _, rfl, ite2 (fun c => ?_) (fun c => ?_)⟩
    · refine ⟨_, hDD, room, same_at hD hs _, ?_⟩
      rw [upd_same, List.replicate_succ', List.map_append]
      rfl
    · have c' : ¬ ch ∈ ("abcdefghijklmnopqrstuvwxyzABCDEFGHIJKLMNOPQRSTUVWXYZ" : Str).cps.toList := fun z => c (decide_eq_true z)
      have hdg : isD ch = true := by
        rcases Bool.or_eq_true _ _ ▸ (signs ch hcm) with z | z
        · exact absurd (let_in z) c'
        · exact z
      refine ⟨_, rfl, ch, _, rfl, rfl, _, hDD, room, same_at hD hs _, ?_⟩
      rw [upd_same, List.replicate_succ', List.map_append, decide_eq_true (dig_in (isD_lt hdg))]
      rfl
  · obtain ⟨hs, hDD⟩ := hI
    refine ⟨D, _, rfl, SqL.of hDD, ?_⟩
    rw [show (List.replicate u.cps.size true).all id = true from List.all_eq_true.mpr fun b hb => by rw [List.eq_of_mem_replicate hb]; rfl]
    exact q H1 hs
def spDueName (C : Addr) : Sp := fun vs H Q _ => ∃ (a : Addr) (ws : List Str) (r : Nat) (u : Str), vs = [.ref a] ∧ LnAt C H a ws r ∧ ws[r]? = some u ∧ NameOk u ∧ ∀ H', Same H H' → Q (.str u) H'
theorem d_due_name (T : TxtL K mg C) (D_is_name : DefOk P w K mg base CX0 1 "is_name" ["word"] spIsName) (D_Line_due : MDef P w K mg base CX0 2 C "due" ["self"] [] (spDue C))
    (A : MAt K C "due_name" "Line.due_name" s_Line_due_name ["self"]) : MDef P w K mg base CX0 3 C "due_name" ["self"] [] (spDueName C) := by
  have B := T.B
  refine A.ok sc_Line_due_name (fun vs H Q E h => ?_) (fun f cdv A outer s H vs Q E hr h => ?_)
  · obtain ⟨a, ws, r, u, rfl, _⟩ := h
    rfl
  obtain ⟨a, ws, r, u, rfl, hL, hu, hn, q⟩ := h
  obtain ⟨dx, nn, wl, c, h1, h2⟩ := hL.ex
  refine ⟨_, pss_cons (ps_set (i := 1) sc_Line_due_name.nd rfl (Or.inl rfl) (pe_m0 D_Line_due T.c_Line.cl (hr.mono (by omega)) pass0 (pv 0)))
  (pss_cons (ps_if (pt_not (pt_val (pe_f D_is_name (hr.mono (by omega)) pass0 (pa_cons (pv 1) pa_nil))))
      (pss_one (ps_never))
      (pss_nil))
  (pss_one (ps_ret (pv 1))))
    , ?_⟩
  refine ⟨_, rfl, a, dx, _, rfl, h1, lnF_no (by decide +kernel) (by decide +kernel) (by decide +kernel) (by decide +kernel), a, ws, r, _, rfl, hL, hu, ?_⟩
  exact ⟨_, rfl, u, rfl, hn, fun H1 s1 => ⟨_, rfl, iteF ⟨_, rfl, q H1 s1⟩⟩⟩
def spNewName (K : PySem.W.Frag) (C : Addr) : Sp := fun vs H Q _ => ∃ (a : Addr) (ws : List Str) (r : Nat) (p : Addr) (ns : List Str) (u : Str), vs = [.ref a, .ref p] ∧ LnAt C H a ws r ∧ SqL K H p (ns.map V.str) ∧ ws[r]? = some u ∧ NameOk u ∧ u ∉ ns ∧
  ∀ H', SameX a H H' → LnAt C H' a ws (r + 1) → Q (.str u) H'
theorem d_read_new_name (T : TxtL K mg C) (D_Line_due_name : MDef P w K mg base CX0 3 C "due_name" ["self"] [] (spDueName C)) (D_Line_step : MDef P w K mg base CX0 1 C "step" ["self"] [] (spStep C))
    (A : MAt K C "read_new_name" "Line.read_new_name" s_Line_read_new_name ["self", "used"]) : MDef P w K mg base CX0 4 C "read_new_name" ["self", "used"] [] (spNewName K C) := by
  have B := T.B
  refine A.ok sc_Line_read_new_name (fun vs H Q E h => ?_) (fun f cdv A outer s H vs Q E hr h => ?_)
  · obtain ⟨a, ws, r, p, ns, u, rfl, _⟩ := h
    rfl
  obtain ⟨a, ws, r, p, ns, u, rfl, hL, hP, hu, hn, hno, q⟩ := h
  obtain ⟨dx, nn, wl, c, h1, h2⟩ := hL.ex
  have hr' : r < ws.length := (List.getElem?_eq_some_iff.mp hu).1
  refine ⟨_, pss_cons (ps_set (i := 2) sc_Line_read_new_name.nd rfl (Or.inl rfl) (pe_m0 D_Line_due_name T.c_Line.cl (hr.mono (by omega)) pass0 (pv 0)))
  (pss_cons (ps_if (pt_cmpR op_in_seq (pv 2) (pv 1) (by rfl))
      (pss_one (ps_never))
      (pss_nil))
  (pss_cons (ps_expr (pe_m0 D_Line_step T.c_Line.cl (hr.mono (by omega)) pass0 (pv 0)))
  (pss_one (ps_ret (pv 2)))))
    , ?_⟩
  refine ⟨_, rfl, a, dx, _, rfl, h1, lnF_no (by decide +kernel) (by decide +kernel) (by decide +kernel) (by decide +kernel), a, ws, r, _, rfl, hL, hu, hn, fun H1 s1 => ?_⟩
  refine ⟨_, rfl, _, rfl, p, _, rfl, .inl (s1.seq hP), rfl, flat_strs, _, rfl, iteF' (by rw [inV_str, decide_eq_false hno]; rfl) ?_⟩
  refine ⟨_, rfl, a, dx, _, rfl, s1 _ _ h1, lnF_no (by decide +kernel) (by decide +kernel) (by decide +kernel) (by decide +kernel), a, ws, r, rfl, hL.same s1, hr', fun H' s' L' => ?_⟩
  exact ⟨_, rfl, q H' ((SameX.of s1).trans s') L'⟩
/-- the name's first place, and no least one is asked -/
def spKnownName (K : PySem.W.Frag) (C : Addr) : Sp := fun vs H Q _ => ∃ (a : Addr) (ws : List Str) (r : Nat) (p : Addr) (ns : List Str) (u : Str) (j : Nat) (least : Int), vs = [.ref a, .ref p, .int least] ∧ LnAt C H a ws r ∧ SqL K H p (ns.map V.str) ∧ ws[r]? = some u ∧ NameOk u ∧
  ns[j]? = some u ∧ ns.Nodup ∧ least ≤ (j : Int) ∧ ∀ H', SameX a H H' → LnAt C H' a ws (r + 1) → Q (.int (j : Int)) H'
theorem nodup_first {ns : List Str} {u : Str} {j : Nat} (hd : ns.Nodup) (h : ns[j]? = some u) : ∀ (m : Nat) (z : V), m < j → (ns.map V.str)[m]? = some z → eqV z (.str u) = false := fun m z hm hz => by
  rw [List.getElem?_map] at hz
  cases e : ns[m]? with
  | none => rw [e] at hz; cases hz
  | some y =>
    rw [e] at hz
    have ez : V.str y = z := Option.some.inj hz
    rw [← ez]
    show decide (y = u) = false
    refine decide_eq_false fun q => ?_
    obtain ⟨h1, e1⟩ := List.getElem?_eq_some_iff.mp e
    obtain ⟨h2, e2⟩ := List.getElem?_eq_some_iff.mp h
    have := (List.getElem_inj hd).mp (e1.trans (q.trans e2.symm))
    omega
theorem read_known_body {f : Addr} {cdv : Value} {A : Around} {outer : List Env} {s : Shared} {H : Hp} {vs : List V} {Q : VK} {E : XK} (T : TxtL K mg C) (D_Line_due_name : MDef P w K mg base CX0 3 C "due_name" ["self"] [] (spDueName C)) (D_Line_step : MDef P w K mg base CX0 1 C "step" ["self"] [] (spStep C))
    (hr : Room 3 (A.deeper (envOfC "Line.read_known_name" (defScope s_Line_read_known_name) s.heap.objs.size f cdv))) (h : spKnownName K C vs H Q E) :
    ∃ t, PSs (cxOf CX0 P w K mg base ["self", "names", "least", "word", "number"] "Line.read_known_name" (defScope s_Line_read_known_name) f cdv A outer s H E).nox (defBody s_Line_read_known_name) t ∧ t { nx := fun _ H' => Q .non H', rt := Q } (start ["self", "names", "least", "word", "number"] vs) H := by
  have B := T.B
  obtain ⟨a, ws, r, p, ns, u, j, least, rfl, hL, hP, hu, hn, hj, hd, hle, q⟩ := h
  obtain ⟨dx, nn, wl, c, h1, h2⟩ := hL.ex
  have hr' : r < ws.length := (List.getElem?_eq_some_iff.mp hu).1
  have hm : u ∈ ns := List.mem_of_getElem? hj
  refine ⟨_, pss_cons (ps_set (i := 3) sc_Line_read_known_name.nd rfl (Or.inl rfl) (pe_m0 D_Line_due_name T.c_Line.cl (hr.mono (by omega)) pass0 (pv 0)))
  (pss_cons (ps_if (pt_cmpR op_notIn_seq (pv 3) (pv 1) (by rfl))
      (pss_one (ps_never))
      (pss_nil))
  (pss_cons (ps_set (i := 4) sc_Line_read_known_name.nd rfl (Or.inl rfl) (pe_bm PySem.F.plainAttrs_list PySem.F.slot_list_index PySem.F.type_list_index mt_index (pv 1) (pa_cons (pv 3) pa_nil)))
  (pss_cons (ps_if (pt_cmpR op_lt (pv 4) (pv 2) (nomark _))
      (pss_one (ps_never))
      (pss_nil))
  (pss_cons (ps_expr (pe_m0 D_Line_step T.c_Line.cl (hr.mono (by omega)) pass0 (pv 0)))
  (pss_one (ps_ret (pv 4)))))))
    , ?_⟩
  refine ⟨_, rfl, a, dx, _, rfl, h1, lnF_no (by decide +kernel) (by decide +kernel) (by decide +kernel) (by decide +kernel), a, ws, r, _, rfl, hL, hu, hn, fun H1 s1 => ?_⟩
  refine ⟨_, rfl, _, rfl, p, _, rfl, .inl (s1.seq hP), rfl, flat_strs, _, rfl, iteF' (by rw [inV_str, decide_eq_true hm]; rfl) ?_⟩
  refine ⟨_, rfl, .inl ⟨rfl, _, s1.seq hP⟩, _, rfl, p, _, _, j, .str u, rfl, rfl, s1.seq hP, rfl, flat_strs, by rw [List.getElem?_map, hj]; rfl, decide_eq_true rfl, nodup_first hd hj, ?_⟩
  refine ⟨_, rfl, _, rfl, _, _, rfl, rfl, _, rfl, iteF' (decide_eq_false (by omega)) ?_⟩
  refine ⟨_, rfl, a, dx, _, rfl, s1 _ _ h1, lnF_no (by decide +kernel) (by decide +kernel) (by decide +kernel) (by decide +kernel), a, ws, r, rfl, hL.same s1, hr', fun H' s' L' => ?_⟩
  exact ⟨_, rfl, q H' ((SameX.of s1).trans s') L'⟩
theorem d_read_known_name (T : TxtL K mg C) (D_Line_due_name : MDef P w K mg base CX0 3 C "due_name" ["self"] [] (spDueName C)) (D_Line_step : MDef P w K mg base CX0 1 C "step" ["self"] [] (spStep C))
    (A : MAtD K C "read_known_name" "Line.read_known_name" s_Line_read_known_name ["self", "names", "least"] [.int 0]) : MDef P w K mg base CX0 4 C "read_known_name" ["self", "names", "least"] [.int 0] (spKnownName K C) := by
  refine A.ok sc_Line_read_known_name (fun vs H Q E h => ?_) (fun f cdv A outer s H vs Q E hr h => read_known_body T D_Line_due_name D_Line_step hr h)
  obtain ⟨a, ws, r, p, ns, u, j, least, rfl, _⟩ := h
  rfl
def spFinish (C : Addr) : Sp := fun vs H Q _ => ∃ (a : Addr) (ws : List Str), vs = [.ref a] ∧ LnAt C H a ws ws.length ∧ Q .non H
theorem d_finish (T : TxtL K mg C) (D_Line_has_more : MDef P w K mg base CX0 1 C "has_more" ["self"] [] (spHasMore C)) (A : MAt K C "finish" "Line.finish" s_Line_finish ["self"]) : MDef P w K mg base CX0 3 C "finish" ["self"] [] (spFinish C) := by
  have B := T.B
  refine A.ok sc_Line_finish (fun vs H Q E h => ?_) (fun f cdv A outer s H vs Q E hr h => ?_)
  · obtain ⟨a, ws, rfl, _⟩ := h
    rfl
  obtain ⟨a, ws, rfl, hL, q⟩ := h
  obtain ⟨dx, nn, wl, c, h1, h2⟩ := hL.ex
  refine ⟨_, pss_one (ps_if (pt_val (pe_m0 D_Line_has_more T.c_Line.cl (hr.mono (by omega)) pass0 (pv 0)))
      (pss_cons (ps_never)
      (pss_one (ps_never)))
      (pss_nil))
    , ?_⟩
  exact ⟨_, rfl, a, dx, _, rfl, h1, lnF_no (by decide +kernel) (by decide +kernel) (by decide +kernel) (by decide +kernel), a, ws, _, rfl, hL, _, rfl, iteF' (decide_eq_false (Nat.lt_irrefl _)) q⟩
def spLines (C : Addr) : Sp := fun vs H Q _ => ∃ (lns : List (List Str)), vs = [.str (glue (lns.map row))] ∧ (∀ l ∈ lns, l ≠ [] ∧ (∀ x ∈ l, WdOk x) ∧ l.length ≤ 1015) ∧ lns.length ≤ 100 ∧ (glue (lns.map row)).length ≤ 1000000 ∧
  ∀ (p : Addr) (as : List Addr) (H' : Hp), Same H H' → H p = none → (∀ a ∈ as, H a = none) → as.Nodup → H' p = some (.lst (as.map V.ref)) → Paired (fun a l => LnAt C H' a l 0) as lns → Q (.ref p) H'
theorem d_lines_of (T : TxtL K mg C) (DI_Line : MDef P w K mg base CX0 1 C "__init__" ["self", "number", "row"] [] (spLnInit C)) (A : At K mg "lines_of" s_lines_of ["text"]) : DefOk P w K mg base CX0 3 "lines_of" ["text"] (spLines C) := by
  have B := T.B
  refine A.ok sc_lines_of (fun vs H Q E h => ?_) (fun f cdv A outer s H vs Q E hr h => ?_)
  · obtain ⟨lns, rfl, _⟩ := h
    rfl
  obtain ⟨lns, rfl, hl, hn, hz, q⟩ := h
  refine ⟨_, pss_cons (ps_set (i := 1) sc_lines_of.nd rfl (Or.inl rfl) (pe_split (pv 0) pe_str))
  (pss_cons (ps_set (i := 2) sc_lines_of.nd rfl (Or.inl rfl) (pe_bm0 PySem.F.plainAttrs_list PySem.F.slot_list_pop PySem.F.type_list_pop mt_pop (pv 1)))
  (pss_cons (ps_if (pt_cmpR op_ne (pv 2) pe_str (nomark _))
      (pss_one (ps_never))
      (pss_nil))
  (pss_one (ps_ret (pe_lc (own := [("number", 3), ("row", 4)])  rfl sc_lines_of.nd (pi_enumS (by rfl) B.enumerate (pa_cons (pv 1) pa_nil) (pk_cons pe_int pk_nil)) (blkOk_by (own := [("number", 3), ("row", 4)]) (N := ["text", "rows", "last", "number", "row"]) (sc := defScope s_lines_of) (by decide +kernel)) (fun _ _ _ _ _ => pg_tupK (K := K) (n := 2) rfl (by rfl) (pgs_cons (pg_name (i := 3) sc_lines_of.nd rfl (Or.inl rfl)) (pgs_cons (pg_name (i := 4) sc_lines_of.nd rfl (Or.inl rfl)) (pgs_nil)))) (fun _ _ _ _ _ => pts_nil) (fun _ _ _ _ _ => (pe_mk DI_Line T.c_Line (hr.mono (by omega)) pass0 (pa_cons (pv 3) (pa_cons (pv 4) pa_nil)))))))))
    , ?_⟩
  have hsplit : Txt.split (glue (lns.map row)) nl = lns.map row ++ [Str.empty] := glue_split fun r hr => by
    obtain ⟨l, hl', rfl⟩ := List.mem_map.mp hr
    exact row_free (hl l hl').2.1
  refine ⟨_, rfl, ⟨_, rfl⟩, _, nl, rfl, rfl, by decide +kernel, Nat.le_trans (Nat.add_le_add_right hz 2) (by decide), fun rl hrl => ?_⟩
  have e0 : upd H rl (.lst ((Txt.split (glue (lns.map row)) nl).map V.str)) = upd H rl (.lst ((lns.map row).map V.str ++ [.str Str.empty])) := by
    rw [hsplit, List.map_append]
    rfl
  rw [e0]
  refine ⟨_, rfl, .inl ⟨rfl, _, SqL.of upd_same⟩, rl, _, .str Str.empty, rfl, rfl, upd_same, by rw [List.length_append, List.length_singleton, Nat.add_sub_cancel, List.getElem?_append_right (Nat.le_refl _), Nat.sub_self]; rfl, ?_⟩
  rw [upd_upd, List.dropLast_concat]
  refine ⟨_, rfl, rfl, _, rfl, iteF' (by decide +kernel) ?_⟩
  refine ⟨_, rfl, _, _, 1, rfl, rfl, SqL.of upd_same, by decide, by decide, fun D hD => ?_⟩
  have hrlD : rl ≠ D := fun z => by
    rw [← z, upd_same] at hD
    cases hD
  have hD0 : H D = none := by
    rw [upd_ne hrlD.symm] at hD
    exact hD
  have sS : Same H (upd H rl (.lst ((lns.map row).map V.str))) := same_new hrl _
  refine lc_it (walk_enumS (xs := (lns.map row).map V.str)) (fun i H' => ∃ as : List Addr, as.length = i ∧ H' D = some (.lst (as.map V.ref)) ∧ Same (upd H rl (.lst ((lns.map row).map V.str))) H' ∧ (∀ a ∈ as, H a = none) ∧ as.Nodup ∧ Paired (fun a l => LnAt C H' a l 0 ∧ l ≠ []) as (lns.take i))
    ⟨[], rfl, upd_same, same_new hD _, fun _ z => absurd z List.not_mem_nil, List.nodup_nil, .nil⟩ (fun i H1 _ ⟨as, _, _, z, _⟩ => z.seq (SqL.of upd_same)) (fun i x H1 H2 hi hI hy => ?_) (fun H1 hI => ?_)
  · obtain ⟨T', x2, rfl, hT', rfl, hx2⟩ := hy
    obtain ⟨as, ha, hDD, hs, hfr, hnd, hpr⟩ := hI
    have hi' : i < lns.length := by
      rw [List.length_map, List.length_map] at hi
      exact hi
    have ex2 : x2 = .str (row lns[i]) := by
      rw [List.getElem?_map, List.getElem?_map, List.getElem?_eq_getElem hi'] at hx2
      exact (Option.some.inj hx2).symm
    subst ex2
    obtain ⟨k1, k2, k3⟩ := hl _ (List.getElem_mem hi')
    have s12 := same_new hT' (.tup [.int (1 + (i : Int)), .str (row lns[i])])
    refine ⟨T', _, rfl, SqT.of upd_same, rfl, _, _, rfl, _, _, rfl, rfl, rfl, _, rfl, _, rfl, fun x dx hx hdx ne => ?_⟩
    refine ⟨x, dx, _, lns[i], rfl, upd_same, k1, k2, by (clear T DI_Line B hr hl hn hz q hsplit hrl e0 hD hrlD hD0 sS hi hT' ha hDD hs hfr hnd hpr hx2 k1 k2 s12 hx hdx ne; omega), fun H3 s3 L3 => ⟨rfl, ?_⟩⟩
    have s13 : Same H1 H3 := s12.trans (same_mk hx hdx s3)
    have hxH : H x = none := (sS.trans (hs.trans s12)).free hx
    refine ⟨_, s13 _ _ hDD, by rw [List.length_map, ha]; exact small1000 (by (clear T DI_Line B hr hl hz q hsplit hrl e0 hD hrlD hD0 sS hi hT' hDD hs hfr hnd hpr hx2 k1 k2 k3 s12 hx hdx ne s3 L3 s13 hxH; omega)), as ++ [x], by rw [List.length_append, ha, List.length_singleton], by rw [upd_same, List.map_append]; rfl, same_at hD (hs.trans s13) _, ?_, ?_, ?_⟩
    · intro a hma
      rcases List.mem_append.mp hma with hma | hma
      · exact hfr a hma
      · rw [List.mem_singleton.mp hma]; exact hxH
    · refine List.nodup_append.mpr ⟨hnd, List.pairwise_singleton _ _, fun a hma b hmb z => ?_⟩
      rw [List.mem_singleton.mp hmb] at z
      subst z
      obtain ⟨j, hj, ej⟩ := List.mem_iff_getElem.mp hma
      obtain ⟨l, _, hla⟩ := paired_at hpr (List.getElem?_eq_getElem hj)
      rw [ej] at hla
      obtain ⟨d1, d2, d3, d4, g1, _⟩ := hla.1.ex
      rw [(s12 _ _ g1)] at hx
      cases hx
    · have upL : ∀ {a : Addr} {l : List Str}, l ≠ [] → LnAt C H3 a l 0 → LnAt C (upd H3 D (.lst (as.map V.ref ++ [.ref x]))) a l 0 := fun {a l} hne h => by
        obtain ⟨d1, d2, d3, d4, g1, g2⟩ := h.ex
        have gD := s13 _ _ hDD
        refine ⟨⟨d1, d2, d3, d4, by rw [upd_ne (ne_of g1 gD (fun z => nomatch z))]; exact g1, ?_⟩, h.ok⟩
        have n2 : d3 ≠ D := fun z => by
          rw [z, gD] at g2
          injection g2 with g2
          injection g2 with g2
          cases l with
          | nil => exact hne rfl
          | cons b bs => cases as with
            | nil => cases g2
            | cons c cs => cases g2
        rw [upd_ne n2]
        exact g2
      rw [List.take_add_one, List.getElem?_eq_getElem hi']
      exact paired_snoc (Paired.mapP hpr fun a l h => ⟨upL h.2 (h.1.same s13), h.2⟩) ⟨upL k1 L3, k1⟩
  · obtain ⟨as, ha, hDD, hs, hfr, hnd, hpr⟩ := hI
    rw [List.length_map, List.length_map, List.take_length] at hpr
    exact q D as H1 (sS.trans hs) hD0 hfr hnd hDD (Paired.mapP hpr fun a l h => h.1)
end
end DP
namespace DP
open PySem PySem.Spec PyProof.Rows L2
abbrev s_names_of : Stmt := topS 42
theorem sc_names_of : FnScope ["things", "thing"] ["things"] (defScope s_names_of) := ⟨rfl, rfl, rfl, by decide +kernel, rfl, by decide +kernel, by decide +kernel⟩
abbrev s_read_light : Stmt := topS 44
theorem sc_read_light : FnScope ["line", "horizon", "light", "least", "first"] ["line", "horizon"] (defScope s_read_light) := ⟨rfl, rfl, rfl, by decide +kernel, rfl, by decide +kernel, by decide +kernel⟩
abbrev s_read_satellite : Stmt := topS 43
theorem sc_read_satellite : FnScope ["line", "horizon", "things", "name", "store", "battery", "level", "reserve", "charge", "settle", "light"] ["line", "horizon", "things"] (defScope s_read_satellite) := ⟨rfl, rfl, rfl, by decide +kernel, rfl, by decide +kernel, by decide +kernel⟩
abbrev s_read_station : Stmt := topS 45
theorem sc_read_station : FnScope ["line", "_", "things", "name", "antennas", "turn"] ["line", "_", "things"] (defScope s_read_station) := ⟨rfl, rfl, rfl, by decide +kernel, rfl, by decide +kernel, by decide +kernel⟩
abbrev s_read_recording : Stmt := topS 46
theorem sc_read_recording : FnScope ["line", "horizon", "things", "name", "satellite", "earliest", "latest", "length", "size", "energy", "worth", "rank", "deadline"] ["line", "horizon", "things"] (defScope s_read_recording) := ⟨rfl, rfl, rfl, by decide +kernel, rfl, by decide +kernel, by decide +kernel⟩
abbrev s_read_pass : Stmt := topS 47
theorem sc_read_pass : FnScope ["line", "horizon", "things", "name", "satellite", "station", "first", "end", "room", "energy", "fee"] ["line", "horizon", "things"] (defScope s_read_pass) := ⟨rfl, rfl, rfl, by decide +kernel, rfl, by decide +kernel, by decide +kernel⟩
abbrev s_most_things : Stmt := topS 52
theorem sc_most_things : FnScope ["sort", "most"] ["sort"] (defScope s_most_things) := ⟨rfl, rfl, rfl, by decide +kernel, rfl, by decide +kernel, by decide +kernel⟩
abbrev s_read_sort : Stmt := topS 51
theorem sc_read_sort : FnScope ["line", "ahead", "things", "word", "sort"] ["line", "ahead", "things"] (defScope s_read_sort) := ⟨rfl, rfl, rfl, by decide +kernel, rfl, by decide +kernel, by decide +kernel⟩
abbrev s_read_things : Stmt := topS 50
theorem sc_read_things : FnScope ["lines", "horizon", "things", "sort", "line", "reader"] ["lines", "horizon"] (defScope s_read_things) := ⟨rfl, rfl, rfl, by decide +kernel, rfl, by decide +kernel, by decide +kernel⟩
abbrev s_Satellite___init__ : Stmt := inClass (topS 34) 0
theorem sc_Satellite___init__ : FnScope ["self", "name", "store", "battery", "start_level", "reserve", "charge", "settle", "light"] ["self", "name", "store", "battery", "start_level", "reserve", "charge", "settle", "light"] (defScope s_Satellite___init__) := ⟨rfl, rfl, rfl, by decide +kernel, rfl, by decide +kernel, by decide +kernel⟩
abbrev s_Station___init__ : Stmt := inClass (topS 35) 0
theorem sc_Station___init__ : FnScope ["self", "name", "antennas", "turn"] ["self", "name", "antennas", "turn"] (defScope s_Station___init__) := ⟨rfl, rfl, rfl, by decide +kernel, rfl, by decide +kernel, by decide +kernel⟩
abbrev s_Recording___init__ : Stmt := inClass (topS 36) 0
theorem sc_Recording___init__ : FnScope ["self", "name", "satellite", "earliest", "latest", "length", "size", "energy", "worth", "rank", "deadline"] ["self", "name", "satellite", "earliest", "latest", "length", "size", "energy", "worth", "rank", "deadline"] (defScope s_Recording___init__) := ⟨rfl, rfl, rfl, by decide +kernel, rfl, by decide +kernel, by decide +kernel⟩
abbrev s_Pass___init__ : Stmt := inClass (topS 37) 0
theorem sc_Pass___init__ : FnScope ["self", "name", "satellite", "station", "span", "room", "energy", "fee"] ["self", "name", "satellite", "station", "span", "room", "energy", "fee"] (defScope s_Pass___init__) := ⟨rfl, rfl, rfl, by decide +kernel, rfl, by decide +kernel, by decide +kernel⟩
abbrev s_World___init__ : Stmt := inClass (topS 38) 6
theorem sc_World___init__ : FnScope ["self", "text", "horizon", "things", "satellites", "stations", "recordings", "passes"] ["self", "text", "horizon", "things"] (defScope s_World___init__) := ⟨rfl, rfl, rfl, by decide +kernel, rfl, by decide +kernel, by decide +kernel⟩
abbrev s_World_parse : Stmt := inClass (topS 38) 7
theorem sc_World_parse : FnScope ["text", "lines", "horizon"] ["text"] (defScope s_World_parse) := ⟨rfl, rfl, rfl, by decide +kernel, rfl, by decide +kernel, by decide +kernel⟩
theorem SameX.new {a L : Addr} {H H' : Hp} {o : HO} (hL : H L = none) (s : SameX a H H') : SameX a H (L2.upd H' L o) := fun b u n h => by
  rw [upd_ne (ne_of_none h hL)]
  exact s b u n h
theorem SameX.sqT {K : PySem.W.Frag} {H H' : Hp} {a t C dx : Addr} {fs : List (Str × V)} {xs : List V} (s : SameX a H H') (ha : H a = some (.ins C dx fs)) (h : SqT K H t xs) : SqT K H' t xs := by
  rcases h with (h | ⟨u, h⟩) | h
  · exact .inl (.inl (s _ _ (ne_of h ha (fun z => nomatch z)) h))
  · exact .inl (.inr ⟨u, s _ _ (ne_of h ha (fun z => nomatch z)) h⟩)
  · exact .inr h
theorem SameX.sqL {K : PySem.W.Frag} {H H' : Hp} {a t C dx : Addr} {fs : List (Str × V)} {xs : List V} (s : SameX a H H') (ha : H a = some (.ins C dx fs)) (h : SqL K H t xs) : SqL K H' t xs := by
  rcases h with (h | ⟨u, h⟩) | h
  · exact .inl (.inl (s _ _ (ne_of h ha (fun z => nomatch z)) h))
  · exact .inl (.inr ⟨u, s _ _ (ne_of h ha (fun z => nomatch z)) h⟩)
  · exact .inr h
theorem SameX.spans {K : PySem.W.Frag} {H H' : Hp} {a C dx : Addr} {fs : List (Str × V)} {xs : List V} {qs : List (Int × Int)} (s : SameX a H H') (ha : H a = some (.ins C dx fs)) (h : Spans K H xs qs) : Spans K H' xs qs :=
  Paired.mapP h fun _ _ ⟨t, h1, h2⟩ => ⟨t, h1, s.sqT ha h2⟩
/-- an object with a name -/
def Named (K : PySem.W.Frag) (H : Hp) (x : V) (nm : Str) : Prop := ∃ a C dx fs, x = .ref a ∧ H a = some (.ins C dx fs) ∧ Cls K C ∧ NoAttr K C "name" ∧ fs.lookup ("name" : Str) = some (.str nm)
theorem Named.same {K : PySem.W.Frag} {H H' : Hp} {x : V} {nm : Str} (h : Named K H x nm) (s : Same H H') : Named K H' x nm := by
  obtain ⟨a, C, dx, fs, h1, h2, h3⟩ := h
  exact ⟨a, C, dx, fs, h1, s _ _ h2, h3⟩
section
variable {P : Program} {w : World} {K : PySem.W.Frag} {mg : Str → Option Value} {base : Heap}
def spNames (K : PySem.W.Frag) : Sp := fun vs H Q _ => ∃ (l : Addr) (xs : List V) (ns : List Str), vs = [.ref l] ∧ SqL K H l xs ∧ Paired (Named K H) xs ns ∧ ns.length ≤ 100 ∧
  ∀ p H', Same H H' → H p = none → H' p = some (.lst (ns.map V.str)) → Q (.ref p) H'
theorem d_names_of (B : Bt mg) (A : At K mg "names_of" s_names_of ["things"]) : DefOk P w K mg base CX0 1 "names_of" ["things"] (spNames K) := by
  refine A.ok sc_names_of (fun vs H Q E h => ?_) (fun f cdv A outer s H vs Q E hr h => ?_)
  · obtain ⟨l, xs, ns, rfl, _⟩ := h
    rfl
  obtain ⟨l, xs, ns, rfl, hl, hp, hn, q⟩ := h
  have hlen := paired_len hp
  refine ⟨_, pss_one (ps_ret (pe_lc (own := [("thing", 1)])  rfl sc_names_of.nd (pi_list (pv 0)) (blkOk_by (own := [("thing", 1)]) (N := ["things", "thing"]) (sc := defScope s_names_of) (by decide +kernel)) (fun _ _ _ _ _ => pg_name (i := 1) sc_names_of.nd rfl (Or.inl rfl)) (fun _ _ _ _ _ => pts_nil) (fun _ _ _ _ _ => (pe_fldK (K := K) rfl (pv 1) rfl))))
    , ?_⟩
  refine ⟨_, rfl, l, rfl, ⟨_, hl⟩, fun D hD => ?_⟩
  refine lc_list (K := K) (a := l) (xs := xs) (fun i H' => Same H H' ∧ H' D = some (.lst ((ns.take i).map V.str))) ⟨same_new hD _, upd_same⟩ (fun i H' _ h => h.1.seq hl) (fun i x H1 hx hI => ?_) (fun H1 hI => ?_)
  · obtain ⟨hs, hDD⟩ := hI
    obtain ⟨nm, hnm, hx2⟩ := paired_at hp hx
    obtain ⟨a, C, dx, fs, rfl, h2, h3, h4, h5⟩ := hx2
    refine ⟨rfl, _, rfl, a, C, dx, fs, _, rfl, hs _ _ h2, h3, h4, h5, _, hDD, ?_, same_at hD hs _, ?_⟩
    · rw [List.length_map, List.length_take]
      exact small1000 (by omega)
    · rw [upd_same, List.take_add_one, hnm, List.map_append]
      rfl
  · obtain ⟨hs, hDD⟩ := hI
    rw [hlen, List.take_length] at hDD
    exact q D H1 hs hD hDD
end
def satF (s : SatD) (t : Addr) : List (Str × V) := [("name", .str s.name), ("store", .int s.store), ("battery", .int s.battery), ("start_level", .int s.level), ("reserve", .int s.reserve), ("charge", .int s.charge), ("settle", .int s.settle), ("light", .ref t)]
def staF (s : StaD) : List (Str × V) := [("name", .str s.name), ("antennas", .int s.antennas), ("turn", .int s.turn)]
def recF (r : RecD) : List (Str × V) := [("name", .str r.name), ("satellite", .int (r.sat : Int)), ("earliest", .int r.earliest), ("latest", .int r.latest), ("length", .int r.length), ("size", .int r.size), ("energy", .int r.energy), ("worth", .int r.worth), ("rank", .int r.rank), ("deadline", .int r.deadline)]
def pasF (p : PasD) (t : Addr) : List (Str × V) := [("name", .str p.name), ("satellite", .int (p.sat : Int)), ("station", .int (p.sta : Int)), ("span", .ref t), ("room", .int p.room), ("energy", .int p.energy), ("fee", .int p.fee)]
def SatAt (K : PySem.W.Frag) (C : Addr) (H : Hp) (x : V) (s : SatD) : Prop := ∃ a dx t ls, x = .ref a ∧ H a = some (.ins C dx (satF s t)) ∧ SqT K H t ls ∧ Spans K H ls s.light
def StaAt (C : Addr) (H : Hp) (x : V) (s : StaD) : Prop := ∃ a dx, x = .ref a ∧ H a = some (.ins C dx (staF s))
def RecAt (C : Addr) (H : Hp) (x : V) (r : RecD) : Prop := ∃ a dx, x = .ref a ∧ H a = some (.ins C dx (recF r))
def PasAt (K : PySem.W.Frag) (C : Addr) (H : Hp) (x : V) (p : PasD) : Prop := ∃ a dx t, x = .ref a ∧ H a = some (.ins C dx (pasF p t)) ∧ SqT K H t [.int p.first, .int p.fin]
/-- a line stays apart from the other objects: their fields are more or fewer -/
theorem SameX.ins {H H' : Hp} {a b C D dx dy : Addr} {fs gs : List (Str × V)} (s : SameX a H H') (ha : H a = some (.ins C dx fs)) (hb : H b = some (.ins D dy gs)) (n : gs.length ≠ fs.length) : H' b = some (.ins D dy gs) := s b _ (ins_ne hb ha n) hb
/-- what the text tells of the other classes -/
structure TxtW (K : PySem.W.Frag) (mg : Str → Option Value) (CL CS CT CR CP CW aS aR fS fT fR fP : Addr) : Prop where
  L : TxtL K mg CL
  c_Satellite : ClsAt K mg "Satellite" CS
  c_Station : ClsAt K mg "Station" CT
  c_Recording : ClsAt K mg "Recording" CR
  c_Pass : ClsAt K mg "Pass" CP
  c_World : ClsAt K mg "World" CW
  n_Satellite_name : NoAttr K CS "name"
  n_Satellite_store : NoAttr K CS "store"
  n_Satellite_battery : NoAttr K CS "battery"
  n_Satellite_start_level : NoAttr K CS "start_level"
  n_Satellite_reserve : NoAttr K CS "reserve"
  n_Satellite_charge : NoAttr K CS "charge"
  n_Satellite_settle : NoAttr K CS "settle"
  n_Satellite_light : NoAttr K CS "light"
  n_Station_name : NoAttr K CT "name"
  n_Station_antennas : NoAttr K CT "antennas"
  n_Station_turn : NoAttr K CT "turn"
  n_Recording_name : NoAttr K CR "name"
  n_Recording_satellite : NoAttr K CR "satellite"
  n_Recording_earliest : NoAttr K CR "earliest"
  n_Recording_latest : NoAttr K CR "latest"
  n_Recording_length : NoAttr K CR "length"
  n_Recording_size : NoAttr K CR "size"
  n_Recording_energy : NoAttr K CR "energy"
  n_Recording_worth : NoAttr K CR "worth"
  n_Recording_rank : NoAttr K CR "rank"
  n_Recording_deadline : NoAttr K CR "deadline"
  n_Pass_name : NoAttr K CP "name"
  n_Pass_satellite : NoAttr K CP "satellite"
  n_Pass_station : NoAttr K CP "station"
  n_Pass_span : NoAttr K CP "span"
  n_Pass_room : NoAttr K CP "room"
  n_Pass_energy : NoAttr K CP "energy"
  n_Pass_fee : NoAttr K CP "fee"
  n_World_text : NoAttr K CW "text"
  n_World_horizon : NoAttr K CW "horizon"
  n_World_satellites : NoAttr K CW "satellites"
  n_World_stations : NoAttr K CW "stations"
  n_World_recordings : NoAttr K CW "recordings"
  n_World_passes : NoAttr K CW "passes"
  g_SATELLITES : ∃ t, mg "SATELLITES" = some (.int 0 t)
  g_STATIONS : ∃ t, mg "STATIONS" = some (.int 1 t)
  g_RECORDINGS : ∃ t, mg "RECORDINGS" = some (.int 2 t)
  g_PASSES : ∃ t, mg "PASSES" = some (.int 3 t)
  g_MOST_UNITS : ∃ t, mg "MOST_UNITS" = some (.int 1000000 t)
  g_MOST_CHARGE : ∃ t, mg "MOST_CHARGE" = some (.int 1000 t)
  g_MOST_DELAY : ∃ t, mg "MOST_DELAY" = some (.int 60 t)
  g_MOST_ANTENNAS : ∃ t, mg "MOST_ANTENNAS" = some (.int 3 t)
  g_MOST_WORTH : ∃ t, mg "MOST_WORTH" = some (.int 1000 t)
  g_MOST_RANK : ∃ t, mg "MOST_RANK" = some (.int 3 t)
  g_MOST_FEE : ∃ t, mg "MOST_FEE" = some (.int 1000 t)
  g_SORTS : mg "SORTS" = some (.ref aS)
  t_SORTS : ∀ H, SqT K H aS (([("satellite" : Str), "station", "recording", "pass"]).map V.str)
  k_SORTS : ∃ o, K.lookup aS = some o ∧ o.cls = .type "tuple" ∧ o.dict = none
  g_READERS : mg "READERS" = some (.ref aR)
  t_READERS : ∀ H, SqT K H aR [.ref fS, .ref fT, .ref fR, .ref fP]
  r_satellite : mg "read_satellite" = some (.ref fS)
  r_station : mg "read_station" = some (.ref fT)
  r_recording : mg "read_recording" = some (.ref fR)
  r_pass : mg "read_pass" = some (.ref fP)
  rdW : ClX.CRead K CW (.type "type")
  v_MOST_HORIZON : ∃ t, ClX.CVal K CW (.type "type") "MOST_HORIZON" (.int 500) (.int 500 t)
  v_MOST_SATELLITES : ∃ t, ClX.CVal K CW (.type "type") "MOST_SATELLITES" (.int 3) (.int 3 t)
  v_MOST_STATIONS : ∃ t, ClX.CVal K CW (.type "type") "MOST_STATIONS" (.int 3) (.int 3 t)
  v_MOST_RECORDINGS : ∃ t, ClX.CVal K CW (.type "type") "MOST_RECORDINGS" (.int 10) (.int 10 t)
  v_MOST_PASSES : ∃ t, ClX.CVal K CW (.type "type") "MOST_PASSES" (.int 10) (.int 10 t)
  v_MOST_SHIFT : ∃ t, ClX.CVal K CW (.type "type") "MOST_SHIFT" (.int 20) (.int 20 t)
section
variable {P : Program} {w : World} {K : PySem.W.Frag} {mg : Str → Option Value} {base : Heap} {CL CS CT CR CP CW aS aR fS fT fR fP : Addr}
theorem TxtW.c_Line (T : TxtW K mg CL CS CT CR CP CW aS aR fS fT fR fP) : ClsAt K mg "Line" CL := T.L.c_Line
def spI_Satellite (C : Addr) : Sp := fun vs H Q _ => ∃ (x dx : Addr) (v0 v1 v2 v3 v4 v5 v6 v7 : V), vs = [.ref x, v0, v1, v2, v3, v4, v5, v6, v7] ∧ H x = some (.ins C dx []) ∧
  Q .non (upd H x (.ins C dx [("name", v0), ("store", v1), ("battery", v2), ("start_level", v3), ("reserve", v4), ("charge", v5), ("settle", v6), ("light", v7)]))
theorem dI_Satellite (T : TxtW K mg CL CS CT CR CP CW aS aR fS fT fR fP) (A : MAt K CS "__init__" "Satellite.__init__" s_Satellite___init__ ["self", "name", "store", "battery", "start_level", "reserve", "charge", "settle", "light"]) : MDef P w K mg base CX0 1 CS "__init__" ["self", "name", "store", "battery", "start_level", "reserve", "charge", "settle", "light"] [] (spI_Satellite CS) := by
  refine A.ok sc_Satellite___init__ (fun vs H Q E h => ?_) (fun f cdv A outer s H vs Q E hr h => ?_)
  · obtain ⟨x, dx, v0, v1, v2, v3, v4, v5, v6, v7, rfl, _⟩ := h
    rfl
  obtain ⟨x, dx, v0, v1, v2, v3, v4, v5, v6, v7, rfl, hx, q⟩ := h
  refine ⟨_, pss_cons (ps_fld (pv 0) (pv 1) rfl)
  (pss_cons (ps_fld (pv 0) (pv 2) rfl)
  (pss_cons (ps_fld (pv 0) (pv 3) rfl)
  (pss_cons (ps_fld (pv 0) (pv 4) rfl)
  (pss_cons (ps_fld (pv 0) (pv 5) rfl)
  (pss_cons (ps_fld (pv 0) (pv 6) rfl)
  (pss_cons (ps_fld (pv 0) (pv 7) rfl)
  (pss_one (ps_fld (pv 0) (pv 8) rfl)))))))), ?_⟩
  refine ⟨_, rfl, _, rfl, x, CS, dx, _, rfl, hx, T.c_Satellite.cl, T.n_Satellite_name, (by show 0 < 1000; decide), ?_⟩
  rw [put_nil]
  refine ⟨_, rfl, _, rfl, x, CS, dx, _, rfl, upd_same, T.c_Satellite.cl, T.n_Satellite_store, (by show 1 < 1000; decide), ?_⟩
  rw [upd_upd]
  rw [put_miss (by decide +kernel)]
  rw [put_nil]
  refine ⟨_, rfl, _, rfl, x, CS, dx, _, rfl, upd_same, T.c_Satellite.cl, T.n_Satellite_battery, (by show 2 < 1000; decide), ?_⟩
  rw [upd_upd]
  rw [put_miss (by decide +kernel)]
  rw [put_miss (by decide +kernel)]
  rw [put_nil]
  refine ⟨_, rfl, _, rfl, x, CS, dx, _, rfl, upd_same, T.c_Satellite.cl, T.n_Satellite_start_level, (by show 3 < 1000; decide), ?_⟩
  rw [upd_upd]
  rw [put_miss (by decide +kernel)]
  rw [put_miss (by decide +kernel)]
  rw [put_miss (by decide +kernel)]
  rw [put_nil]
  refine ⟨_, rfl, _, rfl, x, CS, dx, _, rfl, upd_same, T.c_Satellite.cl, T.n_Satellite_reserve, (by show 4 < 1000; decide), ?_⟩
  rw [upd_upd]
  rw [put_miss (by decide +kernel)]
  rw [put_miss (by decide +kernel)]
  rw [put_miss (by decide +kernel)]
  rw [put_miss (by decide +kernel)]
  rw [put_nil]
  refine ⟨_, rfl, _, rfl, x, CS, dx, _, rfl, upd_same, T.c_Satellite.cl, T.n_Satellite_charge, (by show 5 < 1000; decide), ?_⟩
  rw [upd_upd]
  rw [put_miss (by decide +kernel)]
  rw [put_miss (by decide +kernel)]
  rw [put_miss (by decide +kernel)]
  rw [put_miss (by decide +kernel)]
  rw [put_miss (by decide +kernel)]
  rw [put_nil]
  refine ⟨_, rfl, _, rfl, x, CS, dx, _, rfl, upd_same, T.c_Satellite.cl, T.n_Satellite_settle, (by show 6 < 1000; decide), ?_⟩
  rw [upd_upd]
  rw [put_miss (by decide +kernel)]
  rw [put_miss (by decide +kernel)]
  rw [put_miss (by decide +kernel)]
  rw [put_miss (by decide +kernel)]
  rw [put_miss (by decide +kernel)]
  rw [put_miss (by decide +kernel)]
  rw [put_nil]
  refine ⟨_, rfl, _, rfl, x, CS, dx, _, rfl, upd_same, T.c_Satellite.cl, T.n_Satellite_light, (by show 7 < 1000; decide), ?_⟩
  rw [upd_upd]
  rw [put_miss (by decide +kernel)]
  rw [put_miss (by decide +kernel)]
  rw [put_miss (by decide +kernel)]
  rw [put_miss (by decide +kernel)]
  rw [put_miss (by decide +kernel)]
  rw [put_miss (by decide +kernel)]
  rw [put_miss (by decide +kernel)]
  rw [put_nil]
  exact q
def spI_Station (C : Addr) : Sp := fun vs H Q _ => ∃ (x dx : Addr) (v0 v1 v2 : V), vs = [.ref x, v0, v1, v2] ∧ H x = some (.ins C dx []) ∧
  Q .non (upd H x (.ins C dx [("name", v0), ("antennas", v1), ("turn", v2)]))
theorem dI_Station (T : TxtW K mg CL CS CT CR CP CW aS aR fS fT fR fP) (A : MAt K CT "__init__" "Station.__init__" s_Station___init__ ["self", "name", "antennas", "turn"]) : MDef P w K mg base CX0 1 CT "__init__" ["self", "name", "antennas", "turn"] [] (spI_Station CT) := by
  refine A.ok sc_Station___init__ (fun vs H Q E h => ?_) (fun f cdv A outer s H vs Q E hr h => ?_)
  · obtain ⟨x, dx, v0, v1, v2, rfl, _⟩ := h
    rfl
  obtain ⟨x, dx, v0, v1, v2, rfl, hx, q⟩ := h
  refine ⟨_, pss_cons (ps_fld (pv 0) (pv 1) rfl)
  (pss_cons (ps_fld (pv 0) (pv 2) rfl)
  (pss_one (ps_fld (pv 0) (pv 3) rfl))), ?_⟩
  refine ⟨_, rfl, _, rfl, x, CT, dx, _, rfl, hx, T.c_Station.cl, T.n_Station_name, (by show 0 < 1000; decide), ?_⟩
  rw [put_nil]
  refine ⟨_, rfl, _, rfl, x, CT, dx, _, rfl, upd_same, T.c_Station.cl, T.n_Station_antennas, (by show 1 < 1000; decide), ?_⟩
  rw [upd_upd]
  rw [put_miss (by decide +kernel)]
  rw [put_nil]
  refine ⟨_, rfl, _, rfl, x, CT, dx, _, rfl, upd_same, T.c_Station.cl, T.n_Station_turn, (by show 2 < 1000; decide), ?_⟩
  rw [upd_upd]
  rw [put_miss (by decide +kernel)]
  rw [put_miss (by decide +kernel)]
  rw [put_nil]
  exact q
def spI_Recording (C : Addr) : Sp := fun vs H Q _ => ∃ (x dx : Addr) (v0 v1 v2 v3 v4 v5 v6 v7 v8 v9 : V), vs = [.ref x, v0, v1, v2, v3, v4, v5, v6, v7, v8, v9] ∧ H x = some (.ins C dx []) ∧
  Q .non (upd H x (.ins C dx [("name", v0), ("satellite", v1), ("earliest", v2), ("latest", v3), ("length", v4), ("size", v5), ("energy", v6), ("worth", v7), ("rank", v8), ("deadline", v9)]))
theorem dI_Recording (T : TxtW K mg CL CS CT CR CP CW aS aR fS fT fR fP) (A : MAt K CR "__init__" "Recording.__init__" s_Recording___init__ ["self", "name", "satellite", "earliest", "latest", "length", "size", "energy", "worth", "rank", "deadline"]) : MDef P w K mg base CX0 1 CR "__init__" ["self", "name", "satellite", "earliest", "latest", "length", "size", "energy", "worth", "rank", "deadline"] [] (spI_Recording CR) := by
  refine A.ok sc_Recording___init__ (fun vs H Q E h => ?_) (fun f cdv A outer s H vs Q E hr h => ?_)
  · obtain ⟨x, dx, v0, v1, v2, v3, v4, v5, v6, v7, v8, v9, rfl, _⟩ := h
    rfl
  obtain ⟨x, dx, v0, v1, v2, v3, v4, v5, v6, v7, v8, v9, rfl, hx, q⟩ := h
  refine ⟨_, pss_cons (ps_fld (pv 0) (pv 1) rfl)
  (pss_cons (ps_fld (pv 0) (pv 2) rfl)
  (pss_cons (ps_fld (pv 0) (pv 3) rfl)
  (pss_cons (ps_fld (pv 0) (pv 4) rfl)
  (pss_cons (ps_fld (pv 0) (pv 5) rfl)
  (pss_cons (ps_fld (pv 0) (pv 6) rfl)
  (pss_cons (ps_fld (pv 0) (pv 7) rfl)
  (pss_cons (ps_fld (pv 0) (pv 8) rfl)
  (pss_cons (ps_fld (pv 0) (pv 9) rfl)
  (pss_one (ps_fld (pv 0) (pv 10) rfl)))))))))), ?_⟩
  refine ⟨_, rfl, _, rfl, x, CR, dx, _, rfl, hx, T.c_Recording.cl, T.n_Recording_name, (by show 0 < 1000; decide), ?_⟩
  rw [put_nil]
  refine ⟨_, rfl, _, rfl, x, CR, dx, _, rfl, upd_same, T.c_Recording.cl, T.n_Recording_satellite, (by show 1 < 1000; decide), ?_⟩
  rw [upd_upd]
  rw [put_miss (by decide +kernel)]
  rw [put_nil]
  refine ⟨_, rfl, _, rfl, x, CR, dx, _, rfl, upd_same, T.c_Recording.cl, T.n_Recording_earliest, (by show 2 < 1000; decide), ?_⟩
  rw [upd_upd]
  rw [put_miss (by decide +kernel)]
  rw [put_miss (by decide +kernel)]
  rw [put_nil]
  refine ⟨_, rfl, _, rfl, x, CR, dx, _, rfl, upd_same, T.c_Recording.cl, T.n_Recording_latest, (by show 3 < 1000; decide), ?_⟩
  rw [upd_upd]
  rw [put_miss (by decide +kernel)]
  rw [put_miss (by decide +kernel)]
  rw [put_miss (by decide +kernel)]
  rw [put_nil]
  refine ⟨_, rfl, _, rfl, x, CR, dx, _, rfl, upd_same, T.c_Recording.cl, T.n_Recording_length, (by show 4 < 1000; decide), ?_⟩
  rw [upd_upd]
  rw [put_miss (by decide +kernel)]
  rw [put_miss (by decide +kernel)]
  rw [put_miss (by decide +kernel)]
  rw [put_miss (by decide +kernel)]
  rw [put_nil]
  refine ⟨_, rfl, _, rfl, x, CR, dx, _, rfl, upd_same, T.c_Recording.cl, T.n_Recording_size, (by show 5 < 1000; decide), ?_⟩
  rw [upd_upd]
  rw [put_miss (by decide +kernel)]
  rw [put_miss (by decide +kernel)]
  rw [put_miss (by decide +kernel)]
  rw [put_miss (by decide +kernel)]
  rw [put_miss (by decide +kernel)]
  rw [put_nil]
  refine ⟨_, rfl, _, rfl, x, CR, dx, _, rfl, upd_same, T.c_Recording.cl, T.n_Recording_energy, (by show 6 < 1000; decide), ?_⟩
  rw [upd_upd]
  rw [put_miss (by decide +kernel)]
  rw [put_miss (by decide +kernel)]
  rw [put_miss (by decide +kernel)]
  rw [put_miss (by decide +kernel)]
  rw [put_miss (by decide +kernel)]
  rw [put_miss (by decide +kernel)]
  rw [put_nil]
  refine ⟨_, rfl, _, rfl, x, CR, dx, _, rfl, upd_same, T.c_Recording.cl, T.n_Recording_worth, (by show 7 < 1000; decide), ?_⟩
  rw [upd_upd]
  rw [put_miss (by decide +kernel)]
  rw [put_miss (by decide +kernel)]
  rw [put_miss (by decide +kernel)]
  rw [put_miss (by decide +kernel)]
  rw [put_miss (by decide +kernel)]
  rw [put_miss (by decide +kernel)]
  rw [put_miss (by decide +kernel)]
  rw [put_nil]
  refine ⟨_, rfl, _, rfl, x, CR, dx, _, rfl, upd_same, T.c_Recording.cl, T.n_Recording_rank, (by show 8 < 1000; decide), ?_⟩
  rw [upd_upd]
  rw [put_miss (by decide +kernel)]
  rw [put_miss (by decide +kernel)]
  rw [put_miss (by decide +kernel)]
  rw [put_miss (by decide +kernel)]
  rw [put_miss (by decide +kernel)]
  rw [put_miss (by decide +kernel)]
  rw [put_miss (by decide +kernel)]
  rw [put_miss (by decide +kernel)]
  rw [put_nil]
  refine ⟨_, rfl, _, rfl, x, CR, dx, _, rfl, upd_same, T.c_Recording.cl, T.n_Recording_deadline, (by show 9 < 1000; decide), ?_⟩
  rw [upd_upd]
  rw [put_miss (by decide +kernel)]
  rw [put_miss (by decide +kernel)]
  rw [put_miss (by decide +kernel)]
  rw [put_miss (by decide +kernel)]
  rw [put_miss (by decide +kernel)]
  rw [put_miss (by decide +kernel)]
  rw [put_miss (by decide +kernel)]
  rw [put_miss (by decide +kernel)]
  rw [put_miss (by decide +kernel)]
  rw [put_nil]
  exact q
def spI_Pass (C : Addr) : Sp := fun vs H Q _ => ∃ (x dx : Addr) (v0 v1 v2 v3 v4 v5 v6 : V), vs = [.ref x, v0, v1, v2, v3, v4, v5, v6] ∧ H x = some (.ins C dx []) ∧
  Q .non (upd H x (.ins C dx [("name", v0), ("satellite", v1), ("station", v2), ("span", v3), ("room", v4), ("energy", v5), ("fee", v6)]))
theorem dI_Pass (T : TxtW K mg CL CS CT CR CP CW aS aR fS fT fR fP) (A : MAt K CP "__init__" "Pass.__init__" s_Pass___init__ ["self", "name", "satellite", "station", "span", "room", "energy", "fee"]) : MDef P w K mg base CX0 1 CP "__init__" ["self", "name", "satellite", "station", "span", "room", "energy", "fee"] [] (spI_Pass CP) := by
  refine A.ok sc_Pass___init__ (fun vs H Q E h => ?_) (fun f cdv A outer s H vs Q E hr h => ?_)
  · obtain ⟨x, dx, v0, v1, v2, v3, v4, v5, v6, rfl, _⟩ := h
    rfl
  obtain ⟨x, dx, v0, v1, v2, v3, v4, v5, v6, rfl, hx, q⟩ := h
  refine ⟨_, pss_cons (ps_fld (pv 0) (pv 1) rfl)
  (pss_cons (ps_fld (pv 0) (pv 2) rfl)
  (pss_cons (ps_fld (pv 0) (pv 3) rfl)
  (pss_cons (ps_fld (pv 0) (pv 4) rfl)
  (pss_cons (ps_fld (pv 0) (pv 5) rfl)
  (pss_cons (ps_fld (pv 0) (pv 6) rfl)
  (pss_one (ps_fld (pv 0) (pv 7) rfl))))))), ?_⟩
  refine ⟨_, rfl, _, rfl, x, CP, dx, _, rfl, hx, T.c_Pass.cl, T.n_Pass_name, (by show 0 < 1000; decide), ?_⟩
  rw [put_nil]
  refine ⟨_, rfl, _, rfl, x, CP, dx, _, rfl, upd_same, T.c_Pass.cl, T.n_Pass_satellite, (by show 1 < 1000; decide), ?_⟩
  rw [upd_upd]
  rw [put_miss (by decide +kernel)]
  rw [put_nil]
  refine ⟨_, rfl, _, rfl, x, CP, dx, _, rfl, upd_same, T.c_Pass.cl, T.n_Pass_station, (by show 2 < 1000; decide), ?_⟩
  rw [upd_upd]
  rw [put_miss (by decide +kernel)]
  rw [put_miss (by decide +kernel)]
  rw [put_nil]
  refine ⟨_, rfl, _, rfl, x, CP, dx, _, rfl, upd_same, T.c_Pass.cl, T.n_Pass_span, (by show 3 < 1000; decide), ?_⟩
  rw [upd_upd]
  rw [put_miss (by decide +kernel)]
  rw [put_miss (by decide +kernel)]
  rw [put_miss (by decide +kernel)]
  rw [put_nil]
  refine ⟨_, rfl, _, rfl, x, CP, dx, _, rfl, upd_same, T.c_Pass.cl, T.n_Pass_room, (by show 4 < 1000; decide), ?_⟩
  rw [upd_upd]
  rw [put_miss (by decide +kernel)]
  rw [put_miss (by decide +kernel)]
  rw [put_miss (by decide +kernel)]
  rw [put_miss (by decide +kernel)]
  rw [put_nil]
  refine ⟨_, rfl, _, rfl, x, CP, dx, _, rfl, upd_same, T.c_Pass.cl, T.n_Pass_energy, (by show 5 < 1000; decide), ?_⟩
  rw [upd_upd]
  rw [put_miss (by decide +kernel)]
  rw [put_miss (by decide +kernel)]
  rw [put_miss (by decide +kernel)]
  rw [put_miss (by decide +kernel)]
  rw [put_miss (by decide +kernel)]
  rw [put_nil]
  refine ⟨_, rfl, _, rfl, x, CP, dx, _, rfl, upd_same, T.c_Pass.cl, T.n_Pass_fee, (by show 6 < 1000; decide), ?_⟩
  rw [upd_upd]
  rw [put_miss (by decide +kernel)]
  rw [put_miss (by decide +kernel)]
  rw [put_miss (by decide +kernel)]
  rw [put_miss (by decide +kernel)]
  rw [put_miss (by decide +kernel)]
  rw [put_miss (by decide +kernel)]
  rw [put_nil]
  exact q
def spLight (K : PySem.W.Frag) (CL : Addr) : Sp := fun vs H Q _ => ∃ (a : Addr) (ws : List Str) (r : Nat) (h : Int) (l : List (Int × Int)), vs = [.ref a, .int h] ∧ LnAt CL H a ws r ∧ r ≤ ws.length ∧ ws.drop r = lightW l ∧ LightOk 0 h l ∧ h ≤ 500 ∧ 0 ≤ h ∧
  ∀ t ls H', SameX a H H' → LnAt CL H' a ws ws.length → H' t = some (.tup ls) → Spans K H' ls l → Q (.ref t) H'
theorem drop_head {ws : List Str} {r : Nat} {u : Str} {t : List Str} (h : ws.drop r = u :: t) : ws[r]? = some u ∧ ws.drop (r + 1) = t := by
  have h1 : (ws.drop r)[0]? = some u := by rw [h]; rfl
  rw [List.getElem?_drop, Nat.add_zero] at h1
  refine ⟨h1, ?_⟩
  have h2 : (ws.drop r).drop 1 = t := by rw [h]; rfl
  rw [List.drop_drop] at h2
  exact h2
theorem drop_nil {ws : List Str} {r : Nat} (h : ws.drop r = []) : ws.length ≤ r := List.drop_eq_nil_iff.mp h
theorem d_read_light (T : TxtW K mg CL CS CT CR CP CW aS aR fS fT fR fP) (D_Line_has_more : MDef P w K mg base CX0 1 CL "has_more" ["self"] [] (spHasMore CL)) (D_Line_read_number : MDef P w K mg base CX0 3 CL "read_number" ["self", "least", "most"] [] (spNumber CL))
    (A : At K mg "read_light" s_read_light ["line", "horizon"]) : DefOk P w K mg base CX0 4 "read_light" ["line", "horizon"] (spLight K CL) := by
  have TW := T
  have T := T.L
  have B := T.B
  refine A.ok sc_read_light (fun vs H Q E h => ?_) (fun f cdv A outer s H vs Q E hr h => ?_)
  · obtain ⟨a, ws, r, h, l, rfl, _⟩ := h
    rfl
  obtain ⟨a, ws, r, h, l, rfl, hL, hrl, hd, hok, hh, hh0, q⟩ := h
  refine ⟨_, pss_cons (ps_set (i := 2) sc_read_light.nd rfl (Or.inl rfl) (pe_lst pa_nil))
  (pss_cons (ps_set (i := 3) sc_read_light.nd rfl (Or.inl rfl) pe_int)
  (pss_cons (ps_while PassesOwn.never (pt_val (pe_m0 D_Line_has_more T.c_Line.cl (hr.mono (by omega)) pass0 (pv 0)))
      (pss_cons (ps_set (i := 4) sc_read_light.nd rfl (Or.inl rfl) (pe_m D_Line_read_number T.c_Line.cl (hr.mono (by omega)) pass0 (pv 0) (pa_cons (pv 3) (pa_cons (pe_op op_sub (pv 1) pe_int) pa_nil))))
      (pss_cons (ps_set (i := 3) sc_read_light.nd rfl (Or.inl rfl) (pe_m D_Line_read_number T.c_Line.cl (hr.mono (by omega)) pass0 (pv 0) (pa_cons (pe_op op_add (pv 4) pe_int) (pa_cons (pv 1) pa_nil))))
      (pss_one (ps_expr (pe_bm PySem.F.plainAttrs_list PySem.F.slot_list_append PySem.F.type_list_append mt_append (pv 2) (pa_cons (pe_tup (pa_cons (pv 4) (pa_cons (pv 3) pa_nil))) pa_nil)))))))
  (pss_one (ps_ret (pe_callTy (call_tuple_of) (by rfl) B.tuple (by decide +kernel) (pa_cons (pv 2) pa_nil))))))
    , ?_⟩
  have no : ∀ {H' : Hp} {k : Nat}, LnAt CL H' a ws k → ∀ {m : Str}, (m == ("number" : Str)) = false → (m == ("words" : Str)) = false → (m == ("read" : Str)) = false → (m == ("column" : Str)) = false → ∃ dx fs, H' a = some (.ins CL dx fs) ∧ fs.lookup m = none := fun {H' k} hx {m} z1 z2 z3 z4 => by
    obtain ⟨dx, n, wl, c, h1, h2⟩ := hx.ex
    exact ⟨dx, _, h1, lnF_no z1 z2 z3 z4⟩
  refine ⟨Nat.zero_le _, fun L hLn => ?_⟩
  have eaL : a ≠ L := by
    obtain ⟨dx, n, wl, c, h1, h2⟩ := hL.ex
    exact ne_of_none h1 hLn
  refine ⟨fun n σ H' => ∃ (l1 l2 : List (Int × Int)) (ls : List V) (k : Nat) (le : Int) (y4 : Option V), n = l2.length ∧ l = l1 ++ l2 ∧ ws.drop k = lightW l2 ∧ k ≤ ws.length ∧ LightOk le h l2 ∧ 0 ≤ le ∧ l1.length ≤ 500 ∧ (l1.length : Int) ≤ le ∧
    σ = [some (.ref a), some (.int h), some (.ref L), some (.int le), y4] ∧ H' L = some (.lst ls) ∧ Spans K H' ls l1 ∧ LnAt CL H' a ws k ∧ SameX a H H', ⟨_, [], l, [], r, 0, none, rfl, rfl, hd, hrl, hok, Int.le_refl 0, Nat.zero_le _, Int.le_refl 0, rfl, upd_same, .nil, hL.same (same_new hLn _), SameX.of (same_new hLn _)⟩, fun n σ H' hI => ?_⟩
  obtain ⟨l1, l2, ls, k, le, y4, rfl, rfl, hdk, hk, hok2, hle, h500, hl1, rfl, hLL, hsp, hLk, hsx⟩ := hI
  obtain ⟨dx, fs, g1, g2⟩ := no hLk (m := "has_more") (by decide +kernel) (by decide +kernel) (by decide +kernel) (by decide +kernel)
  refine ⟨_, rfl, a, dx, fs, rfl, g1, g2, a, ws, k, rfl, hLk, _, rfl, ?_⟩
  cases l2 with
  | nil =>
    have hk2 := drop_nil hdk
    rw [decide_eq_false (by (clear D_Line_has_more D_Line_read_number TW T B hr hL hrl hh hh0 no hLn eaL hle h500 hl1 hLL hsp hLk hsx g1 g2 hd hok q hdk hok2; omega))]
    refine ⟨_, rfl, L, _, rfl, .inl ⟨SqL.of hLL, fun t ht => ?_⟩⟩
    rw [List.append_nil] at q
    refine q t ls _ (SameX.trans hsx (SameX.of (same_new ht _))) ?_ upd_same (hsp.same (same_new ht _))
    rw [show ws.length = k by (clear D_Line_has_more D_Line_read_number TW T B hr hL hrl hh hh0 no hLn eaL hle h500 hl1 hLL hsp hLk hsx g1 g2 hd hok q hdk hok2 ht; omega)]
    exact hLk.same (same_new ht _)
  | cons sp l2 =>
    obtain ⟨o1, o2, o3, o4⟩ := hok2
    obtain ⟨u1, hd1⟩ := drop_head (show ws.drop k = num sp.1 :: num sp.2 :: lightW l2 from hdk)
    obtain ⟨u2, hd2⟩ := drop_head hd1
    have k1 : k < ws.length := (List.getElem?_eq_some_iff.mp u1).1
    have k2 : k + 1 < ws.length := (List.getElem?_eq_some_iff.mp u2).1
    rw [decide_eq_true k1]
    refine ⟨fun σ' H'' => ∃ m, m < (sp :: l2).length ∧ ∃ (l1' l2' : List (Int × Int)) (ls : List V) (k : Nat) (le : Int) (y4 : Option V), m = l2'.length ∧ l1 ++ sp :: l2 = l1' ++ l2' ∧ ws.drop k = lightW l2' ∧ k ≤ ws.length ∧ LightOk le h l2' ∧ 0 ≤ le ∧ l1'.length ≤ 500 ∧ (l1'.length : Int) ≤ le ∧
      σ' = [some (.ref a), some (.int h), some (.ref L), some (.int le), y4] ∧ H'' L = some (.lst ls) ∧ Spans K H'' ls l1' ∧ LnAt CL H'' a ws k ∧ SameX a H H'', fun σ' H'' z => z, ?_⟩
    obtain ⟨dx, fs, g1, g2⟩ := no hLk (m := "read_number") (by decide +kernel) (by decide +kernel) (by decide +kernel) (by decide +kernel)
    refine ⟨_, rfl, a, dx, fs, rfl, g1, g2, _, rfl, _, rfl, _, _, rfl, rfl, a, ws, k, le, h - 1, sp.1, rfl, hLk, u1, by (clear D_Line_has_more D_Line_read_number TW T B hr hL hrl hh hh0 no hLn eaL hk h500 hl1 hLL hsp hLk hsx hd hok q hdk o2 o3 o4 u1 hd1 u2 hd2 k1 k2 g1 g2; omega), by (clear D_Line_has_more D_Line_read_number TW T B hr hL hrl no hLn eaL hk hle h500 hl1 hLL hsp hLk hsx hd hok q hdk o1 o4 u1 hd1 u2 hd2 k1 k2 g1 g2; omega), o1, by (clear D_Line_has_more D_Line_read_number TW T B hr hL hrl hh hh0 no hLn eaL hk hle h500 hl1 hLL hsp hLk hsx hd hok q hdk o1 o4 u1 hd1 u2 hd2 k1 k2 g1 g2; omega), fun H1 s1 L1 => ?_⟩
    obtain ⟨dx1, fs1, g1', g2'⟩ := no L1 (m := "read_number") (by decide +kernel) (by decide +kernel) (by decide +kernel) (by decide +kernel)
    refine ⟨_, rfl, a, dx1, fs1, rfl, g1', g2', _, rfl, _, _, rfl, rfl, _, rfl, a, ws, k + 1, sp.1 + 1, h, sp.2, rfl, L1, u2, by (clear D_Line_has_more D_Line_read_number TW T B hr hL hrl hh hh0 no hLn eaL hk h500 hl1 hLL hsp hLk hsx hd hok q hdk o3 o4 u1 hd1 u2 hd2 k1 k2 g1 g2 s1 L1 g1' g2'; omega), by (clear D_Line_has_more D_Line_read_number TW T B hr hL hrl no hLn eaL hk hle h500 hl1 hLL hsp hLk hsx hd hok q hdk o1 o2 o4 u1 hd1 u2 hd2 k1 k2 g1 g2 s1 L1 g1' g2'; omega), o2, o3, fun H2 s2 L2 => ?_⟩
    obtain ⟨dx2, n2, wl2, c2, g12, _⟩ := L2.ex
    have hL2 : H2 L = some (.lst ls) := s2 _ _ eaL.symm (s1 _ _ eaL.symm hLL)
    have hsp2 := s2.spans g1' (s1.spans g1 hsp)
    refine ⟨_, rfl, .inl ⟨rfl, _, SqL.of hL2⟩, _, rfl, _, rfl, (by show 2 ≤ sizeLine; decide), fun t ht => ?_⟩
    have eLt : L ≠ t := ne_of_none hL2 ht
    have hLt : (upd H2 t (.tup [.int sp.1, .int sp.2])) L = some (.lst ls) := by rw [upd_ne eLt]; exact hL2
    have hlsl := paired_len hsp
    refine ⟨L, ls, .ref t, rfl, rfl, hLt, by rw [hlsl]; exact small1000 (by (clear D_Line_has_more D_Line_read_number TW T B hr hL hrl hh hh0 no hLn eaL hk hle hl1 hLL hsp hLk hsx hd hok q hdk o1 o2 o3 o4 u1 hd1 u2 hd2 k1 k2 g1 g2 s1 L1 g1' g2' s2 L2 g12 hL2 hsp2 ht eLt hLt; omega)), ?_⟩
    refine ⟨l2.length, by rw [List.length_cons]; (clear D_Line_has_more D_Line_read_number TW T B hr hL hrl hh hh0 no hLn eaL hk hle h500 hl1 hLL hsp hLk hsx hd hok q hdk o1 o2 o3 o4 u1 hd1 u2 hd2 k1 k2 g1 g2 s1 L1 g1' g2' s2 L2 g12 hL2 hsp2 ht eLt hLt hlsl; omega), l1 ++ [sp], l2, ls ++ [.ref t], k + 2, sp.2, _, rfl, by rw [List.append_assoc]; rfl, hd2, by (clear D_Line_has_more D_Line_read_number TW T B hr hL hrl hh hh0 no hLn eaL hk hle h500 hl1 hLL hsp hLk hsx hd hok q hdk o1 o2 o3 o4 u1 hd1 u2 hd2 k1 g1 g2 s1 L1 g1' g2' s2 L2 g12 hL2 hsp2 ht eLt hLt hlsl; omega), o4, by (clear D_Line_has_more D_Line_read_number TW T B hr hL hrl hh hh0 no hLn eaL hk hle hLL hsp hLk hsx hd hok q hdk o3 o4 u1 hd1 u2 hd2 k1 k2 g1 g2 s1 L1 g1' g2' s2 L2 g12 hL2 hsp2 ht eLt hLt; omega), by rw [List.length_append, List.length_singleton]; (clear D_Line_has_more D_Line_read_number TW T B hr hL hrl no hLn eaL hk hle hLL hsp hLk hsx hd hok q hdk o4 u1 hd1 u2 hd2 k1 k2 g1 g2 s1 L1 g1' g2' s2 L2 g12 hL2 hsp2 ht eLt hLt; omega), by rw [List.length_append, List.length_singleton]; (clear D_Line_has_more D_Line_read_number TW T B hr hL hrl hh hh0 no hLn eaL hk hle h500 hLL hsp hLk hsx hd hok q hdk o3 o4 u1 hd1 u2 hd2 k1 k2 g1 g2 s1 L1 g1' g2' s2 L2 g12 hL2 hsp2 ht eLt hLt; omega), rfl, upd_same, ?_, ?_, ?_⟩
    · exact Spans.upd (paired_snoc (hsp2.same (same_new ht _)) ⟨t, rfl, SqT.of upd_same⟩) hLt
    · have L2t := L2.same (same_new ht (.tup [.int sp.1, .int sp.2]))
      obtain ⟨dx3, n3, wl3, c3, z1, z2⟩ := L2t.ex
      refine ⟨⟨dx3, n3, wl3, c3, by rw [upd_ne eaL]; exact z1, ?_⟩, L2t.ok⟩
      rw [upd_ne]
      · exact z2
      · intro z
        rw [z, hLt] at z2
        have e : ls = ws.map V.str := HO.lst.inj (Option.some.inj z2)
        cases ws with
        | nil => exact absurd k1 (Nat.not_lt_zero _)
        | cons w wr =>
          rw [e] at hsp
          cases hsp with
          | cons y _ =>
            obtain ⟨_, y1, _⟩ := y
            cases y1
    · exact SameX.new hLn (((hsx.trans s1).trans s2).trans (SameX.of (same_new ht _)))
/-- the names of a sort's things -/
def NamesAt (K : PySem.W.Frag) (H : Hp) (th : Addr) (i : Nat) (ns : List Str) : Prop := ∃ (ls : List Addr) (l : Addr) (xs : List V), SqT K H th (ls.map V.ref) ∧ ls[i]? = some l ∧ SqL K H l xs ∧ Paired (Named K H) xs ns ∧ ns.length ≤ 100
theorem NamesAt.same {K : PySem.W.Frag} {H H' : Hp} {th : Addr} {i : Nat} {ns : List Str} (h : NamesAt K H th i ns) (s : Same H H') : NamesAt K H' th i ns := by
  obtain ⟨ls, l, xs, h1, h2, h3, h4, h5⟩ := h
  exact ⟨ls, l, xs, Same.tup s h1, h2, s.seq h3, Paired.mapP h4 fun _ _ z => z.same s, h5⟩
/-- a line is none of the named objects: it has no name -/
theorem SameX.named {K : PySem.W.Frag} {H H' : Hp} {a C dx : Addr} {fs : List (Str × V)} {x : V} {nm : Str} (s : SameX a H H') (ha : H a = some (.ins C dx fs)) (hn : fs.lookup ("name" : Str) = none) (h : Named K H x nm) : Named K H' x nm := by
  obtain ⟨b, D, dy, gs, h1, h2, h3, h4, h5⟩ := h
  refine ⟨b, D, dy, gs, h1, s _ _ (fun z => ?_) h2, h3, h4, h5⟩
  rw [z, ha] at h2
  injection h2 with h2
  injection h2 with z1 z2 z3
  rw [← z3, hn] at h5
  cases h5
theorem NamesAt.sameX {K : PySem.W.Frag} {CL : Addr} {H H' : Hp} {a : Addr} {ws : List Str} {r : Nat} {th : Addr} {i : Nat} {ns : List Str} (h : NamesAt K H th i ns) (hL : LnAt CL H a ws r) (s : SameX a H H') : NamesAt K H' th i ns := by
  obtain ⟨ls, l, xs, h1, h2, h3, h4, h5⟩ := h
  obtain ⟨dx, n, wl, c, g1, g2⟩ := hL.ex
  exact ⟨ls, l, xs, s.sqT g1 h1, h2, s.sqL g1 h3, Paired.mapP h4 fun _ _ z => s.named g1 (lnF_no (by decide +kernel) (by decide +kernel) (by decide +kernel) (by decide +kernel)) z, h5⟩
theorem le_min2 {n i j : Int} (h1 : n ≤ i) (h2 : n ≤ j) : n ≤ (if j < i then j else i) := by split <;> assumption
theorem LnAt.no {C : Addr} {H : Hp} {a : Addr} {ws : List Str} {r : Nat} (h : LnAt C H a ws r) {m : Str} (z1 : (m == ("number" : Str)) = false) (z2 : (m == ("words" : Str)) = false) (z3 : (m == ("read" : Str)) = false) (z4 : (m == ("column" : Str)) = false) :
    ∃ dx fs, H a = some (.ins C dx fs) ∧ fs.lookup m = none := by
  obtain ⟨dx, n, wl, c, h1, h2⟩ := h.ex
  exact ⟨dx, _, h1, lnF_no z1 z2 z3 z4⟩
theorem SameX.free {a x : Addr} {H H' : Hp} {o : HO} (s : SameX a H H') (ha : H' a = some o) (h : H' x = none) : H x = none := by
  cases q : H x with
  | none => rfl
  | some u =>
    by_cases e : x = a
    · rw [e, ha] at h; cases h
    · rw [s x u e q] at h; cases h
theorem LnAt.there {C : Addr} {H : Hp} {a : Addr} {ws : List Str} {r : Nat} (h : LnAt C H a ws r) : ∃ o, H a = some o := by
  obtain ⟨dx, n, wl, c, h1, h2⟩ := h.ex
  exact ⟨_, h1⟩
theorem same_made {H : Hp} {x dx : Addr} {o u v : HO} (hx : H x = none) (hd : H dx = none) : Same H (upd (upd (upd H dx o) x u) x v) := fun b z e => by
  have n1 : b ≠ x := ne_of_none e hx
  rw [upd_ne n1, upd_ne n1, upd_ne (ne_of_none e hd)]
  exact e
def spRdSat (K : PySem.W.Frag) (CL CS : Addr) : Sp := fun vs H Q _ => ∃ (a : Addr) (h : Int) (th : Addr) (s : SatD) (ns : List Str), vs = [.ref a, .int h, .ref th] ∧ LnAt CL H a (wSat s) 1 ∧ NamesAt K H th 0 ns ∧ s.name ∉ ns ∧ SatOk h s ∧ 1 ≤ h ∧ h ≤ 500 ∧
  ∀ b H', H b = none → SameX a H H' → LnAt CL H' a (wSat s) (wSat s).length → SatAt K CS H' (.ref b) s → Q (.ref b) H'
theorem d_read_satellite (T : TxtW K mg CL CS CT CR CP CW aS aR fS fT fR fP) (D_names_of : DefOk P w K mg base CX0 1 "names_of" ["things"] (spNames K)) (D_Line_read_new_name : MDef P w K mg base CX0 4 CL "read_new_name" ["self", "used"] [] (spNewName K CL))
    (D_Line_read_field : MDef P w K mg base CX0 4 CL "read_field" ["self", "word", "least", "most"] [] (spField CL)) (D_Line_read_choice : MDef P w K mg base CX0 3 CL "read_choice" ["self", "choices"] [] (spChoice K CL))
    (D_read_light : DefOk P w K mg base CX0 4 "read_light" ["line", "horizon"] (spLight K CL)) (DI_Satellite : MDef P w K mg base CX0 1 CS "__init__" ["self", "name", "store", "battery", "start_level", "reserve", "charge", "settle", "light"] [] (spI_Satellite CS))
    (A : At K mg "read_satellite" s_read_satellite ["line", "horizon", "things"]) : DefOk P w K mg base CX0 5 "read_satellite" ["line", "horizon", "things"] (spRdSat K CL CS) := by
  have B := T.L.B
  refine A.ok sc_read_satellite (fun vs H Q E h => ?_) (fun f cdv A outer s H vs Q E hr h => ?_)
  · obtain ⟨a, h, th, s, ns, rfl, _⟩ := h
    rfl
  obtain ⟨a, h, th, sd, ns, rfl, hL, hN, hno, ok, hh, hh5, q⟩ := h
  refine ⟨_, pss_cons (ps_set (i := 3) sc_read_satellite.nd rfl (Or.inl rfl) (pe_m D_Line_read_new_name T.c_Line.cl (hr.mono (by omega)) pass0 (pv 0) (pa_cons (pe_f D_names_of (hr.mono (by omega)) pass0 (pa_cons (pe_ix ix_tup (pv 2) (pe_gi T.g_SATELLITES) (fun _ _ => rfl)) pa_nil)) pa_nil)))
  (pss_cons (ps_set (i := 4) sc_read_satellite.nd rfl (Or.inl rfl) (pe_m D_Line_read_field T.c_Line.cl (hr.mono (by omega)) pass0 (pv 0) (pa_cons pe_str (pa_cons pe_int (pa_cons (pe_gi T.g_MOST_UNITS) pa_nil)))))
  (pss_cons (ps_set (i := 5) sc_read_satellite.nd rfl (Or.inl rfl) (pe_m D_Line_read_field T.c_Line.cl (hr.mono (by omega)) pass0 (pv 0) (pa_cons pe_str (pa_cons pe_int (pa_cons (pe_gi T.g_MOST_UNITS) pa_nil)))))
  (pss_cons (ps_set (i := 6) sc_read_satellite.nd rfl (Or.inl rfl) (pe_m D_Line_read_field T.c_Line.cl (hr.mono (by omega)) pass0 (pv 0) (pa_cons pe_str (pa_cons pe_int (pa_cons (pv 5) pa_nil)))))
  (pss_cons (ps_set (i := 7) sc_read_satellite.nd rfl (Or.inl rfl) (pe_m D_Line_read_field T.c_Line.cl (hr.mono (by omega)) pass0 (pv 0) (pa_cons pe_str (pa_cons pe_int (pa_cons (pv 6) pa_nil)))))
  (pss_cons (ps_set (i := 8) sc_read_satellite.nd rfl (Or.inl rfl) (pe_m D_Line_read_field T.c_Line.cl (hr.mono (by omega)) pass0 (pv 0) (pa_cons pe_str (pa_cons pe_int (pa_cons (pe_gi T.g_MOST_CHARGE) pa_nil)))))
  (pss_cons (ps_set (i := 9) sc_read_satellite.nd rfl (Or.inl rfl) (pe_m D_Line_read_field T.c_Line.cl (hr.mono (by omega)) pass0 (pv 0) (pa_cons pe_str (pa_cons pe_int (pa_cons (pe_gi T.g_MOST_DELAY) pa_nil)))))
  (pss_cons (ps_expr (pe_m D_Line_read_choice T.c_Line.cl (hr.mono (by omega)) pass0 (pv 0) (pa_cons (pe_tup (pa_cons pe_str pa_nil)) pa_nil)))
  (pss_cons (ps_set (i := 10) sc_read_satellite.nd rfl (Or.inl rfl) (pe_f D_read_light (hr.mono (by omega)) pass0 (pa_cons (pv 0) (pa_cons (pv 1) pa_nil))))
  (pss_one (ps_ret (pe_mk DI_Satellite T.c_Satellite (hr.mono (by omega)) pass0 (pa_cons (pv 3) (pa_cons (pv 4) (pa_cons (pv 5) (pa_cons (pv 6) (pa_cons (pv 7) (pa_cons (pv 8) (pa_cons (pv 9) (pa_cons (pv 10) pa_nil)))))))))))))))))))
    , ?_⟩
  have b1 := ok.store; have b2 := ok.battery; have b3 := ok.level; have b4 := ok.reserve; have b5 := ok.charge; have b6 := ok.settle
  obtain ⟨ls, l, xs, t1, t2, t3, t4, t5⟩ := hN
  obtain ⟨_, _, g0, z0⟩ := LnAt.no hL (m := "read_new_name") (by decide +kernel) (by decide +kernel) (by decide +kernel) (by decide +kernel)
  refine ⟨_, rfl, a, _, _, rfl, g0, z0, _, rfl, th, _, _, .ref l, rfl, rfl, t1, atI_nat (j := 0) (by rw [List.getElem?_map, t2]; rfl), l, xs, ns, rfl, t3, t4, t5, fun p H1 s1 np hp => ?_⟩
  refine ⟨a, _, 1, p, ns, sd.name, rfl, hL.same s1, SqL.of hp, rfl, ok.name, hno, fun H2 s2 L2 => ?_⟩
  (obtain ⟨_, _, g2, z2⟩ := LnAt.no L2 (m := "read_field") (by decide +kernel) (by decide +kernel) (by decide +kernel) (by decide +kernel); refine ⟨_, rfl, a, _, _, rfl, g2, z2, a, _, 2, _, _, _, sd.store, rfl, L2, rfl, rfl, by omega, by omega, by omega, by omega, fun H3 s3 L3 => ?_⟩)
  (obtain ⟨_, _, g3, z3⟩ := LnAt.no L3 (m := "read_field") (by decide +kernel) (by decide +kernel) (by decide +kernel) (by decide +kernel); refine ⟨_, rfl, a, _, _, rfl, g3, z3, a, _, 4, _, _, _, sd.battery, rfl, L3, rfl, rfl, by (clear T D_names_of D_Line_read_new_name D_Line_read_field D_Line_read_choice D_read_light DI_Satellite B hr hL hno ok hh hh5 q b1 b3 b4 b5 b6 t1 t2 t3 t4 t5 g0 z0 s1 np hp s2 L2 g2 z2 s3 L3 g3 z3; omega), by (clear T D_names_of D_Line_read_new_name D_Line_read_field D_Line_read_choice D_read_light DI_Satellite B hr hL hno ok hh hh5 q b1 b3 b4 b5 b6 t1 t2 t3 t4 t5 g0 z0 s1 np hp s2 L2 g2 z2 s3 L3 g3 z3; omega), by (clear T D_names_of D_Line_read_new_name D_Line_read_field D_Line_read_choice D_read_light DI_Satellite B hr hL hno ok hh hh5 q b1 b3 b4 b5 b6 t1 t2 t3 t4 t5 g0 z0 s1 np hp s2 L2 g2 z2 s3 L3 g3 z3; omega), by (clear T D_names_of D_Line_read_new_name D_Line_read_field D_Line_read_choice D_read_light DI_Satellite B hr hL hno ok hh hh5 q b1 b3 b4 b5 b6 t1 t2 t3 t4 t5 g0 z0 s1 np hp s2 L2 g2 z2 s3 L3 g3 z3; omega), fun H4 s4 L4 => ?_⟩)
  (obtain ⟨_, _, g4, z4⟩ := LnAt.no L4 (m := "read_field") (by decide +kernel) (by decide +kernel) (by decide +kernel) (by decide +kernel); refine ⟨_, rfl, a, _, _, rfl, g4, z4, _, rfl, a, _, 6, _, _, _, sd.level, rfl, L4, rfl, rfl, by (clear T D_names_of D_Line_read_new_name D_Line_read_field D_Line_read_choice D_read_light DI_Satellite B hr hL hno ok hh hh5 q b1 b2 b4 b5 b6 t1 t2 t3 t4 t5 g0 z0 s1 np hp s2 L2 g2 z2 s3 L3 g3 z3 s4 L4 g4 z4; omega), by (clear T D_names_of D_Line_read_new_name D_Line_read_field D_Line_read_choice D_read_light DI_Satellite B hr hL hno ok hh hh5 q b1 b4 b5 b6 t1 t2 t3 t4 t5 g0 z0 s1 np hp s2 L2 g2 z2 s3 L3 g3 z3 s4 L4 g4 z4; omega), by (clear T D_names_of D_Line_read_new_name D_Line_read_field D_Line_read_choice D_read_light DI_Satellite B hr hL hno ok hh hh5 q b1 b2 b4 b5 b6 t1 t2 t3 t4 t5 g0 z0 s1 np hp s2 L2 g2 z2 s3 L3 g3 z3 s4 L4 g4 z4; omega), by (clear T D_names_of D_Line_read_new_name D_Line_read_field D_Line_read_choice D_read_light DI_Satellite B hr hL hno ok hh hh5 q b1 b2 b4 b5 b6 t1 t2 t3 t4 t5 g0 z0 s1 np hp s2 L2 g2 z2 s3 L3 g3 z3 s4 L4 g4 z4; omega), fun H5 s5 L5 => ?_⟩)
  (obtain ⟨_, _, g5, z5⟩ := LnAt.no L5 (m := "read_field") (by decide +kernel) (by decide +kernel) (by decide +kernel) (by decide +kernel); refine ⟨_, rfl, a, _, _, rfl, g5, z5, _, rfl, a, _, 8, _, _, _, sd.reserve, rfl, L5, rfl, rfl, by (clear T D_names_of D_Line_read_new_name D_Line_read_field D_Line_read_choice D_read_light DI_Satellite B hr hL hno ok hh hh5 q b1 b2 b3 b5 b6 t1 t2 t3 t4 t5 g0 z0 s1 np hp s2 L2 g2 z2 s3 L3 g3 z3 s4 L4 g4 z4 s5 L5 g5 z5; omega), by (clear T D_names_of D_Line_read_new_name D_Line_read_field D_Line_read_choice D_read_light DI_Satellite B hr hL hno ok hh hh5 q b1 b5 b6 t1 t2 t3 t4 t5 g0 z0 s1 np hp s2 L2 g2 z2 s3 L3 g3 z3 s4 L4 g4 z4 s5 L5 g5 z5; omega), by (clear T D_names_of D_Line_read_new_name D_Line_read_field D_Line_read_choice D_read_light DI_Satellite B hr hL hno ok hh hh5 q b1 b2 b3 b5 b6 t1 t2 t3 t4 t5 g0 z0 s1 np hp s2 L2 g2 z2 s3 L3 g3 z3 s4 L4 g4 z4 s5 L5 g5 z5; omega), by (clear T D_names_of D_Line_read_new_name D_Line_read_field D_Line_read_choice D_read_light DI_Satellite B hr hL hno ok hh hh5 q b1 b2 b3 b5 b6 t1 t2 t3 t4 t5 g0 z0 s1 np hp s2 L2 g2 z2 s3 L3 g3 z3 s4 L4 g4 z4 s5 L5 g5 z5; omega), fun H6 s6 L6 => ?_⟩)
  (obtain ⟨_, _, g6, z6⟩ := LnAt.no L6 (m := "read_field") (by decide +kernel) (by decide +kernel) (by decide +kernel) (by decide +kernel); refine ⟨_, rfl, a, _, _, rfl, g6, z6, a, _, 10, _, _, _, sd.charge, rfl, L6, rfl, rfl, by (clear T D_names_of D_Line_read_new_name D_Line_read_field D_Line_read_choice D_read_light DI_Satellite B hr hL hno ok hh hh5 q b1 b2 b3 b4 b6 t1 t2 t3 t4 t5 g0 z0 s1 np hp s2 L2 g2 z2 s3 L3 g3 z3 s4 L4 g4 z4 s5 L5 g5 z5 s6 L6 g6 z6; omega), by (clear T D_names_of D_Line_read_new_name D_Line_read_field D_Line_read_choice D_read_light DI_Satellite B hr hL hno ok hh hh5 q b1 b2 b3 b4 b6 t1 t2 t3 t4 t5 g0 z0 s1 np hp s2 L2 g2 z2 s3 L3 g3 z3 s4 L4 g4 z4 s5 L5 g5 z5 s6 L6 g6 z6; omega), by (clear T D_names_of D_Line_read_new_name D_Line_read_field D_Line_read_choice D_read_light DI_Satellite B hr hL hno ok hh hh5 q b1 b2 b3 b4 b6 t1 t2 t3 t4 t5 g0 z0 s1 np hp s2 L2 g2 z2 s3 L3 g3 z3 s4 L4 g4 z4 s5 L5 g5 z5 s6 L6 g6 z6; omega), by (clear T D_names_of D_Line_read_new_name D_Line_read_field D_Line_read_choice D_read_light DI_Satellite B hr hL hno ok hh hh5 q b1 b2 b3 b4 b6 t1 t2 t3 t4 t5 g0 z0 s1 np hp s2 L2 g2 z2 s3 L3 g3 z3 s4 L4 g4 z4 s5 L5 g5 z5 s6 L6 g6 z6; omega), fun H7 s7 L7 => ?_⟩)
  (obtain ⟨_, _, g7, z7⟩ := LnAt.no L7 (m := "read_field") (by decide +kernel) (by decide +kernel) (by decide +kernel) (by decide +kernel); refine ⟨_, rfl, a, _, _, rfl, g7, z7, a, _, 12, _, _, _, sd.settle, rfl, L7, rfl, rfl, by (clear T D_names_of D_Line_read_new_name D_Line_read_field D_Line_read_choice D_read_light DI_Satellite B hr hL hno ok hh hh5 q b1 b2 b3 b4 b5 t1 t2 t3 t4 t5 g0 z0 s1 np hp s2 L2 g2 z2 s3 L3 g3 z3 s4 L4 g4 z4 s5 L5 g5 z5 s6 L6 g6 z6 s7 L7 g7 z7; omega), by (clear T D_names_of D_Line_read_new_name D_Line_read_field D_Line_read_choice D_read_light DI_Satellite B hr hL hno ok hh hh5 q b1 b2 b3 b4 b5 t1 t2 t3 t4 t5 g0 z0 s1 np hp s2 L2 g2 z2 s3 L3 g3 z3 s4 L4 g4 z4 s5 L5 g5 z5 s6 L6 g6 z6 s7 L7 g7 z7; omega), by (clear T D_names_of D_Line_read_new_name D_Line_read_field D_Line_read_choice D_read_light DI_Satellite B hr hL hno ok hh hh5 q b1 b2 b3 b4 b5 t1 t2 t3 t4 t5 g0 z0 s1 np hp s2 L2 g2 z2 s3 L3 g3 z3 s4 L4 g4 z4 s5 L5 g5 z5 s6 L6 g6 z6 s7 L7 g7 z7; omega), by (clear T D_names_of D_Line_read_new_name D_Line_read_field D_Line_read_choice D_read_light DI_Satellite B hr hL hno ok hh hh5 q b1 b2 b3 b4 b5 t1 t2 t3 t4 t5 g0 z0 s1 np hp s2 L2 g2 z2 s3 L3 g3 z3 s4 L4 g4 z4 s5 L5 g5 z5 s6 L6 g6 z6 s7 L7 g7 z7; omega), fun H8 s8 L8 => ?_⟩)
  obtain ⟨_, _, g8, z8⟩ := LnAt.no L8 (m := "read_choice") (by decide +kernel) (by decide +kernel) (by decide +kernel) (by decide +kernel)
  refine ⟨_, rfl, a, _, _, rfl, g8, z8, (by show 1 ≤ sizeLine; decide), fun t ht => ?_⟩
  refine ⟨a, _, 14, t, [Str.ofString "light"], Str.ofString "light", rfl, L8.same (same_new ht _), SqT.of upd_same, rfl, List.mem_cons_self, fun H9 s9 L9 => ?_⟩
  refine ⟨_, rfl, _, rfl, a, _, 15, h, sd.light, rfl, L9, by unfold wSat; rw [List.length_append]; exact Nat.le_add_right 15 _, rfl, ok.light, hh5, by omega, fun t ls' H10 s10 L10 htt hsp => ?_⟩
  refine ⟨_, rfl, _, rfl, _, rfl, _, rfl, _, rfl, _, rfl, _, rfl, _, rfl, fun x dx hx hdx ne => ?_⟩
  refine ⟨x, dx, _, _, _, _, _, _, _, _, rfl, upd_same, rfl, ?_⟩
  have sA : SameX a H H10 := (((((((((SameX.of s1).trans s2).trans s3).trans s4).trans s5).trans s6).trans s7).trans s8).trans (SameX.of (same_new ht _))).trans (s9.trans s10)
  have sB := same_made (o := .own x) (u := .ins CS dx []) (v := .ins CS dx (satF sd t)) hx hdx
  obtain ⟨o, ho⟩ := L10.there
  refine q x _ (sA.free ho hx) (sA.trans (SameX.of sB)) (L10.same sB) ⟨x, dx, t, ls', rfl, upd_same, SqT.of (sB _ _ htt), hsp.same sB⟩
def spRdSta (K : PySem.W.Frag) (CL CT : Addr) : Sp := fun vs H Q _ => ∃ (a : Addr) (h : Int) (th : Addr) (s : StaD) (ns : List Str), vs = [.ref a, .int h, .ref th] ∧ LnAt CL H a (wSta s) 1 ∧ NamesAt K H th 1 ns ∧ s.name ∉ ns ∧ StaOk s ∧
  ∀ b H', H b = none → SameX a H H' → LnAt CL H' a (wSta s) (wSta s).length → StaAt CT H' (.ref b) s → Q (.ref b) H'
theorem d_read_station (T : TxtW K mg CL CS CT CR CP CW aS aR fS fT fR fP) (D_names_of : DefOk P w K mg base CX0 1 "names_of" ["things"] (spNames K)) (D_Line_read_new_name : MDef P w K mg base CX0 4 CL "read_new_name" ["self", "used"] [] (spNewName K CL))
    (D_Line_read_field : MDef P w K mg base CX0 4 CL "read_field" ["self", "word", "least", "most"] [] (spField CL)) (DI_Station : MDef P w K mg base CX0 1 CT "__init__" ["self", "name", "antennas", "turn"] [] (spI_Station CT))
    (A : At K mg "read_station" s_read_station ["line", "_", "things"]) : DefOk P w K mg base CX0 5 "read_station" ["line", "_", "things"] (spRdSta K CL CT) := by
  have B := T.L.B
  refine A.ok sc_read_station (fun vs H Q E h => ?_) (fun f cdv A outer s H vs Q E hr h => ?_)
  · obtain ⟨a, h, th, s, ns, rfl, _⟩ := h
    rfl
  obtain ⟨a, h, th, sd, ns, rfl, hL, hN, hno, ok, q⟩ := h
  refine ⟨_, pss_cons (ps_set (i := 3) sc_read_station.nd rfl (Or.inl rfl) (pe_m D_Line_read_new_name T.c_Line.cl (hr.mono (by omega)) pass0 (pv 0) (pa_cons (pe_f D_names_of (hr.mono (by omega)) pass0 (pa_cons (pe_ix ix_tup (pv 2) (pe_gi T.g_STATIONS) (fun _ _ => rfl)) pa_nil)) pa_nil)))
  (pss_cons (ps_set (i := 4) sc_read_station.nd rfl (Or.inl rfl) (pe_m D_Line_read_field T.c_Line.cl (hr.mono (by omega)) pass0 (pv 0) (pa_cons pe_str (pa_cons pe_int (pa_cons (pe_gi T.g_MOST_ANTENNAS) pa_nil)))))
  (pss_cons (ps_set (i := 5) sc_read_station.nd rfl (Or.inl rfl) (pe_m D_Line_read_field T.c_Line.cl (hr.mono (by omega)) pass0 (pv 0) (pa_cons pe_str (pa_cons pe_int (pa_cons (pe_gi T.g_MOST_DELAY) pa_nil)))))
  (pss_one (ps_ret (pe_mk DI_Station T.c_Station (hr.mono (by omega)) pass0 (pa_cons (pv 3) (pa_cons (pv 4) (pa_cons (pv 5) pa_nil))))))))
    , ?_⟩
  have b1 := ok.antennas; have b2 := ok.turn
  obtain ⟨ls, l, xs, t1, t2, t3, t4, t5⟩ := hN
  obtain ⟨_, _, g0, z0⟩ := LnAt.no hL (m := "read_new_name") (by decide +kernel) (by decide +kernel) (by decide +kernel) (by decide +kernel)
  refine ⟨_, rfl, a, _, _, rfl, g0, z0, _, rfl, th, _, _, .ref l, rfl, rfl, t1, atI_nat (j := 1) (by rw [List.getElem?_map, t2]; rfl), l, xs, ns, rfl, t3, t4, t5, fun p H1 s1 np hp => ?_⟩
  refine ⟨a, _, 1, p, ns, sd.name, rfl, hL.same s1, SqL.of hp, rfl, ok.name, hno, fun H2 s2 L2 => ?_⟩
  (obtain ⟨_, _, g2, z2⟩ := LnAt.no L2 (m := "read_field") (by decide +kernel) (by decide +kernel) (by decide +kernel) (by decide +kernel); refine ⟨_, rfl, a, _, _, rfl, g2, z2, a, _, 2, _, _, _, sd.antennas, rfl, L2, rfl, rfl, by omega, by omega, by omega, by omega, fun H3 s3 L3 => ?_⟩)
  (obtain ⟨_, _, g3, z3⟩ := LnAt.no L3 (m := "read_field") (by decide +kernel) (by decide +kernel) (by decide +kernel) (by decide +kernel); refine ⟨_, rfl, a, _, _, rfl, g3, z3, a, _, 4, _, _, _, sd.turn, rfl, L3, rfl, rfl, by omega, by omega, by omega, by (clear T D_names_of D_Line_read_new_name D_Line_read_field DI_Station B hr hL hno ok q b1 t1 t2 t3 t4 t5 g0 z0 s1 np hp s2 L2 g2 z2 s3 L3 g3 z3; omega), fun H10 s4 L10 => ?_⟩)
  refine ⟨_, rfl, _, rfl, _, rfl, fun x dx hx hdx ne => ?_⟩
  refine ⟨x, dx, _, _, _, rfl, upd_same, rfl, ?_⟩
  have sA : SameX a H H10 := (((SameX.of s1).trans s2).trans s3).trans s4
  have sB := same_made (o := .own x) (u := .ins CT dx []) (v := .ins CT dx (staF sd)) hx hdx
  obtain ⟨o, ho⟩ := L10.there
  exact q x _ (sA.free ho hx) (sA.trans (SameX.of sB)) (L10.same sB) ⟨x, dx, rfl, upd_same⟩
def spRdRec (K : PySem.W.Frag) (CL CR : Addr) : Sp := fun vs H Q _ => ∃ (a : Addr) (th : Addr) (W : WorldD) (s : RecD) (ns : List Str), vs = [.ref a, .int W.horizon, .ref th] ∧ LnAt CL H a (wRec W s) 1 ∧ NamesAt K H th 2 ns ∧ NamesAt K H th 0 (W.sats.map (·.name)) ∧ s.name ∉ ns ∧ WorldOk W ∧ RecOk W s ∧
  ∀ b H', H b = none → SameX a H H' → LnAt CL H' a (wRec W s) (wRec W s).length → RecAt CR H' (.ref b) s → Q (.ref b) H'
theorem d_read_recording (T : TxtW K mg CL CS CT CR CP CW aS aR fS fT fR fP) (D_names_of : DefOk P w K mg base CX0 1 "names_of" ["things"] (spNames K)) (D_Line_read_new_name : MDef P w K mg base CX0 4 CL "read_new_name" ["self", "used"] [] (spNewName K CL))
    (D_Line_read_field : MDef P w K mg base CX0 4 CL "read_field" ["self", "word", "least", "most"] [] (spField CL)) (D_Line_read_choice : MDef P w K mg base CX0 3 CL "read_choice" ["self", "choices"] [] (spChoice K CL))
    (D_Line_read_known_name : MDef P w K mg base CX0 4 CL "read_known_name" ["self", "names", "least"] [.int 0] (spKnownName K CL))
    (DI_Recording : MDef P w K mg base CX0 1 CR "__init__" ["self", "name", "satellite", "earliest", "latest", "length", "size", "energy", "worth", "rank", "deadline"] [] (spI_Recording CR))
    (A : At K mg "read_recording" s_read_recording ["line", "horizon", "things"]) : DefOk P w K mg base CX0 5 "read_recording" ["line", "horizon", "things"] (spRdRec K CL CR) := by
  have B := T.L.B
  refine A.ok sc_read_recording (fun vs H Q E h => ?_) (fun f cdv A outer s H vs Q E hr h => ?_)
  · obtain ⟨a, th, W, s, ns, rfl, _⟩ := h
    rfl
  obtain ⟨a, th, W, sd, ns, rfl, hL, hN, hS, hno, wok, ok, q⟩ := h
  refine ⟨_, pss_cons (ps_set (i := 3) sc_read_recording.nd rfl (Or.inl rfl) (pe_m D_Line_read_new_name T.c_Line.cl (hr.mono (by omega)) pass0 (pv 0) (pa_cons (pe_f D_names_of (hr.mono (by omega)) pass0 (pa_cons (pe_ix ix_tup (pv 2) (pe_gi T.g_RECORDINGS) (fun _ _ => rfl)) pa_nil)) pa_nil)))
  (pss_cons (ps_expr (pe_m D_Line_read_choice T.c_Line.cl (hr.mono (by omega)) pass0 (pv 0) (pa_cons (pe_tup (pa_cons pe_str pa_nil)) pa_nil)))
  (pss_cons (ps_set (i := 4) sc_read_recording.nd rfl (Or.inl rfl) (pe_m D_Line_read_known_name T.c_Line.cl (hr.mono (by omega)) pass0 (pv 0) (pa_cons (pe_f D_names_of (hr.mono (by omega)) pass0 (pa_cons (pe_ix ix_tup (pv 2) (pe_gi T.g_SATELLITES) (fun _ _ => rfl)) pa_nil)) pa_nil)))
  (pss_cons (ps_set (i := 5) sc_read_recording.nd rfl (Or.inl rfl) (pe_m D_Line_read_field T.c_Line.cl (hr.mono (by omega)) pass0 (pv 0) (pa_cons pe_str (pa_cons pe_int (pa_cons (pe_op op_sub (pv 1) pe_int) pa_nil)))))
  (pss_cons (ps_set (i := 6) sc_read_recording.nd rfl (Or.inl rfl) (pe_m D_Line_read_field T.c_Line.cl (hr.mono (by omega)) pass0 (pv 0) (pa_cons pe_str (pa_cons (pv 5) (pa_cons (pe_callB (call_min2 rfl) (by rfl) B.min (by decide +kernel) (pa_cons (pe_op op_add (pv 5) (ClX.pe_cval (pe_ga T.c_World.gC) rfl)) (pa_cons (pe_op op_sub (pv 1) pe_int) pa_nil))) pa_nil)))))
  (pss_cons (ps_set (i := 7) sc_read_recording.nd rfl (Or.inl rfl) (pe_m D_Line_read_field T.c_Line.cl (hr.mono (by omega)) pass0 (pv 0) (pa_cons pe_str (pa_cons pe_int (pa_cons (pe_op op_sub (pv 1) (pv 6)) pa_nil)))))
  (pss_cons (ps_set (i := 8) sc_read_recording.nd rfl (Or.inl rfl) (pe_m D_Line_read_field T.c_Line.cl (hr.mono (by omega)) pass0 (pv 0) (pa_cons pe_str (pa_cons pe_int (pa_cons (pe_gi T.g_MOST_UNITS) pa_nil)))))
  (pss_cons (ps_set (i := 9) sc_read_recording.nd rfl (Or.inl rfl) (pe_m D_Line_read_field T.c_Line.cl (hr.mono (by omega)) pass0 (pv 0) (pa_cons pe_str (pa_cons pe_int (pa_cons (pe_gi T.g_MOST_UNITS) pa_nil)))))
  (pss_cons (ps_set (i := 10) sc_read_recording.nd rfl (Or.inl rfl) (pe_m D_Line_read_field T.c_Line.cl (hr.mono (by omega)) pass0 (pv 0) (pa_cons pe_str (pa_cons pe_int (pa_cons (pe_gi T.g_MOST_WORTH) pa_nil)))))
  (pss_cons (ps_set (i := 11) sc_read_recording.nd rfl (Or.inl rfl) (pe_m D_Line_read_field T.c_Line.cl (hr.mono (by omega)) pass0 (pv 0) (pa_cons pe_str (pa_cons pe_int (pa_cons (pe_gi T.g_MOST_RANK) pa_nil)))))
  (pss_cons (ps_set (i := 12) sc_read_recording.nd rfl (Or.inl rfl) (pe_m D_Line_read_field T.c_Line.cl (hr.mono (by omega)) pass0 (pv 0) (pa_cons pe_str (pa_cons pe_int (pa_cons (pv 1) pa_nil)))))
  (pss_one (ps_ret (pe_mk DI_Recording T.c_Recording (hr.mono (by omega)) pass0 (pa_cons (pv 3) (pa_cons (pv 4) (pa_cons (pv 5) (pa_cons (pv 6) (pa_cons (pv 7) (pa_cons (pv 8) (pa_cons (pv 9) (pa_cons (pv 10) (pa_cons (pv 11) (pa_cons (pv 12) pa_nil)))))))))))))))))))))))
    , ?_⟩
  have b0 := wok.horizon; have b1 := ok.earliest; have b2 := ok.latest; have b3 := ok.length; have b4 := ok.size; have b5 := ok.energy; have b6 := ok.worth; have b7 := ok.rank; have b8 := ok.deadline
  obtain ⟨ls, l, xs, t1, t2, t3, t4, t5⟩ := hN
  obtain ⟨_, _, g0, z0⟩ := LnAt.no hL (m := "read_new_name") (by decide +kernel) (by decide +kernel) (by decide +kernel) (by decide +kernel)
  refine ⟨_, rfl, a, _, _, rfl, g0, z0, _, rfl, th, _, _, .ref l, rfl, rfl, t1, atI_nat (j := 2) (by rw [List.getElem?_map, t2]; rfl), l, xs, ns, rfl, t3, t4, t5, fun p H1 s1 np hp => ?_⟩
  refine ⟨a, _, 1, p, ns, sd.name, rfl, hL.same s1, SqL.of hp, rfl, ok.name, hno, fun H2 s2 L2 => ?_⟩
  obtain ⟨_, _, g2, z2⟩ := LnAt.no L2 (m := "read_choice") (by decide +kernel) (by decide +kernel) (by decide +kernel) (by decide +kernel)
  refine ⟨_, rfl, a, _, _, rfl, g2, z2, (by show 1 ≤ sizeLine; decide), fun t ht => ?_⟩
  refine ⟨a, _, 2, t, [Str.ofString "by"], Str.ofString "by", rfl, L2.same (same_new ht _), SqT.of upd_same, rfl, List.mem_cons_self, fun H3 s3 L3 => ?_⟩
  have s03 : SameX a H H3 := (((SameX.of s1).trans s2).trans (SameX.of (same_new ht _))).trans s3
  obtain ⟨ls', l', xs', u1, u2, u3, u4, u5⟩ := hS.sameX hL s03
  obtain ⟨_, _, g3, z3⟩ := LnAt.no L3 (m := "read_known_name") (by decide +kernel) (by decide +kernel) (by decide +kernel) (by decide +kernel)
  refine ⟨_, rfl, a, _, _, rfl, g3, z3, _, rfl, th, _, _, .ref l', rfl, rfl, u1, atI_nat (j := 0) (by rw [List.getElem?_map, u2]; rfl), l', xs', _, rfl, u3, u4, u5, fun p2 H4 s4 np2 hp2 => ?_⟩
  refine ⟨a, _, 3, p2, _, satN W sd.sat, sd.sat, 0, rfl, L3.same s4, SqL.of hp2, rfl, satN_ok wok ok.sat, satN_at ok.sat, wok.dSats, by (clear T D_names_of D_Line_read_new_name D_Line_read_field D_Line_read_choice D_Line_read_known_name DI_Recording B hr hL hS hno wok ok q b0 b1 b2 b3 b4 b5 b6 b7 b8 t1 t2 t3 t4 t5 g0 z0 s1 np hp s2 L2 g2 z2 ht s3 L3 s03 u1 u2 u3 u4 u5 g3 z3 s4 np2 hp2; omega), fun H5 s5 L5 => ?_⟩
  (obtain ⟨_, _, g5, z5⟩ := LnAt.no L5 (m := "read_field") (by decide +kernel) (by decide +kernel) (by decide +kernel) (by decide +kernel); refine ⟨_, rfl, a, _, _, rfl, g5, z5, _, rfl, _, _, rfl, rfl, a, _, 4, _, _, _, sd.earliest, rfl, L5, rfl, rfl, by omega, by omega, by omega, by omega, fun H6 s6 L6 => ?_⟩)
  obtain ⟨tk, hv⟩ := T.v_MOST_SHIFT
  (obtain ⟨_, _, g6, z6⟩ := LnAt.no L6 (m := "read_field") (by decide +kernel) (by decide +kernel) (by decide +kernel) (by decide +kernel); refine ⟨_, rfl, a, _, _, rfl, g6, z6, _, rfl, _, rfl, CW, _, _, _, rfl, T.rdW, hv, _, _, rfl, rfl, _, rfl, _, _, rfl, rfl, _, _, rfl, a, _, 6, _, _, _, sd.latest, rfl, L6, rfl, rfl, by omega, by omega, by omega, le_min2 (by (clear T D_names_of D_Line_read_new_name D_Line_read_field D_Line_read_choice D_Line_read_known_name DI_Recording B hr hL hS hno wok ok q b0 b1 b3 b4 b5 b6 b7 b8 t1 t2 t3 t4 t5 g0 z0 s1 np hp s2 L2 g2 z2 ht s3 L3 s03 u1 u2 u3 u4 u5 g3 z3 s4 np2 hp2 s5 L5 g5 z5 s6 L6 hv g6 z6; omega)) (by omega), fun H7 s7 L7 => ?_⟩)
  (obtain ⟨_, _, g7, z7⟩ := LnAt.no L7 (m := "read_field") (by decide +kernel) (by decide +kernel) (by decide +kernel) (by decide +kernel); refine ⟨_, rfl, a, _, _, rfl, g7, z7, _, rfl, _, rfl, _, _, rfl, rfl, a, _, 8, _, _, _, sd.length, rfl, L7, rfl, rfl, by omega, by omega, by (clear T D_names_of D_Line_read_new_name D_Line_read_field D_Line_read_choice D_Line_read_known_name DI_Recording B hr hL hS hno wok ok q b0 b1 b2 b4 b5 b6 b7 b8 t1 t2 t3 t4 t5 g0 z0 s1 np hp s2 L2 g2 z2 ht s3 L3 s03 u1 u2 u3 u4 u5 g3 z3 s4 np2 hp2 s5 L5 g5 z5 s6 L6 hv g6 z6 s7 L7 g7 z7; omega), by omega, fun H8 s8 L8 => ?_⟩)
  (obtain ⟨_, _, g8, z8⟩ := LnAt.no L8 (m := "read_field") (by decide +kernel) (by decide +kernel) (by decide +kernel) (by decide +kernel); refine ⟨_, rfl, a, _, _, rfl, g8, z8, a, _, 10, _, _, _, sd.size, rfl, L8, rfl, rfl, by (clear T D_names_of D_Line_read_new_name D_Line_read_field D_Line_read_choice D_Line_read_known_name DI_Recording B hr hL hS hno wok ok q b0 b1 b2 b3 b5 b6 b7 b8 t1 t2 t3 t4 t5 g0 z0 s1 np hp s2 L2 g2 z2 ht s3 L3 s03 u1 u2 u3 u4 u5 g3 z3 s4 np2 hp2 s5 L5 g5 z5 s6 L6 hv g6 z6 s7 L7 g7 z7 s8 L8 g8 z8; omega), by (clear T D_names_of D_Line_read_new_name D_Line_read_field D_Line_read_choice D_Line_read_known_name DI_Recording B hr hL hS hno wok ok q b0 b1 b2 b3 b5 b6 b7 b8 t1 t2 t3 t4 t5 g0 z0 s1 np hp s2 L2 g2 z2 ht s3 L3 s03 u1 u2 u3 u4 u5 g3 z3 s4 np2 hp2 s5 L5 g5 z5 s6 L6 hv g6 z6 s7 L7 g7 z7 s8 L8 g8 z8; omega), by (clear T D_names_of D_Line_read_new_name D_Line_read_field D_Line_read_choice D_Line_read_known_name DI_Recording B hr hL hS hno wok ok q b0 b1 b2 b3 b5 b6 b7 b8 t1 t2 t3 t4 t5 g0 z0 s1 np hp s2 L2 g2 z2 ht s3 L3 s03 u1 u2 u3 u4 u5 g3 z3 s4 np2 hp2 s5 L5 g5 z5 s6 L6 hv g6 z6 s7 L7 g7 z7 s8 L8 g8 z8; omega), by (clear T D_names_of D_Line_read_new_name D_Line_read_field D_Line_read_choice D_Line_read_known_name DI_Recording B hr hL hS hno wok ok q b0 b1 b2 b3 b5 b6 b7 b8 t1 t2 t3 t4 t5 g0 z0 s1 np hp s2 L2 g2 z2 ht s3 L3 s03 u1 u2 u3 u4 u5 g3 z3 s4 np2 hp2 s5 L5 g5 z5 s6 L6 hv g6 z6 s7 L7 g7 z7 s8 L8 g8 z8; omega), fun H9 s9 L9 => ?_⟩)
  (obtain ⟨_, _, g9, z9⟩ := LnAt.no L9 (m := "read_field") (by decide +kernel) (by decide +kernel) (by decide +kernel) (by decide +kernel); refine ⟨_, rfl, a, _, _, rfl, g9, z9, a, _, 12, _, _, _, sd.energy, rfl, L9, rfl, rfl, by (clear T D_names_of D_Line_read_new_name D_Line_read_field D_Line_read_choice D_Line_read_known_name DI_Recording B hr hL hS hno wok ok q b0 b1 b2 b3 b4 b6 b7 b8 t1 t2 t3 t4 t5 g0 z0 s1 np hp s2 L2 g2 z2 ht s3 L3 s03 u1 u2 u3 u4 u5 g3 z3 s4 np2 hp2 s5 L5 g5 z5 s6 L6 hv g6 z6 s7 L7 g7 z7 s8 L8 g8 z8 s9 L9 g9 z9; omega), by (clear T D_names_of D_Line_read_new_name D_Line_read_field D_Line_read_choice D_Line_read_known_name DI_Recording B hr hL hS hno wok ok q b0 b1 b2 b3 b4 b6 b7 b8 t1 t2 t3 t4 t5 g0 z0 s1 np hp s2 L2 g2 z2 ht s3 L3 s03 u1 u2 u3 u4 u5 g3 z3 s4 np2 hp2 s5 L5 g5 z5 s6 L6 hv g6 z6 s7 L7 g7 z7 s8 L8 g8 z8 s9 L9 g9 z9; omega), by (clear T D_names_of D_Line_read_new_name D_Line_read_field D_Line_read_choice D_Line_read_known_name DI_Recording B hr hL hS hno wok ok q b0 b1 b2 b3 b4 b6 b7 b8 t1 t2 t3 t4 t5 g0 z0 s1 np hp s2 L2 g2 z2 ht s3 L3 s03 u1 u2 u3 u4 u5 g3 z3 s4 np2 hp2 s5 L5 g5 z5 s6 L6 hv g6 z6 s7 L7 g7 z7 s8 L8 g8 z8 s9 L9 g9 z9; omega), by (clear T D_names_of D_Line_read_new_name D_Line_read_field D_Line_read_choice D_Line_read_known_name DI_Recording B hr hL hS hno wok ok q b0 b1 b2 b3 b4 b6 b7 b8 t1 t2 t3 t4 t5 g0 z0 s1 np hp s2 L2 g2 z2 ht s3 L3 s03 u1 u2 u3 u4 u5 g3 z3 s4 np2 hp2 s5 L5 g5 z5 s6 L6 hv g6 z6 s7 L7 g7 z7 s8 L8 g8 z8 s9 L9 g9 z9; omega), fun H10 s10 L10 => ?_⟩)
  (obtain ⟨_, _, g10, z10⟩ := LnAt.no L10 (m := "read_field") (by decide +kernel) (by decide +kernel) (by decide +kernel) (by decide +kernel); refine ⟨_, rfl, a, _, _, rfl, g10, z10, a, _, 14, _, _, _, sd.worth, rfl, L10, rfl, rfl, by (clear T D_names_of D_Line_read_new_name D_Line_read_field D_Line_read_choice D_Line_read_known_name DI_Recording B hr hL hS hno wok ok q b0 b1 b2 b3 b4 b5 b7 b8 t1 t2 t3 t4 t5 g0 z0 s1 np hp s2 L2 g2 z2 ht s3 L3 s03 u1 u2 u3 u4 u5 g3 z3 s4 np2 hp2 s5 L5 g5 z5 s6 L6 hv g6 z6 s7 L7 g7 z7 s8 L8 g8 z8 s9 L9 g9 z9 s10 L10 g10 z10; omega), by (clear T D_names_of D_Line_read_new_name D_Line_read_field D_Line_read_choice D_Line_read_known_name DI_Recording B hr hL hS hno wok ok q b0 b1 b2 b3 b4 b5 b7 b8 t1 t2 t3 t4 t5 g0 z0 s1 np hp s2 L2 g2 z2 ht s3 L3 s03 u1 u2 u3 u4 u5 g3 z3 s4 np2 hp2 s5 L5 g5 z5 s6 L6 hv g6 z6 s7 L7 g7 z7 s8 L8 g8 z8 s9 L9 g9 z9 s10 L10 g10 z10; omega), by (clear T D_names_of D_Line_read_new_name D_Line_read_field D_Line_read_choice D_Line_read_known_name DI_Recording B hr hL hS hno wok ok q b0 b1 b2 b3 b4 b5 b7 b8 t1 t2 t3 t4 t5 g0 z0 s1 np hp s2 L2 g2 z2 ht s3 L3 s03 u1 u2 u3 u4 u5 g3 z3 s4 np2 hp2 s5 L5 g5 z5 s6 L6 hv g6 z6 s7 L7 g7 z7 s8 L8 g8 z8 s9 L9 g9 z9 s10 L10 g10 z10; omega), by (clear T D_names_of D_Line_read_new_name D_Line_read_field D_Line_read_choice D_Line_read_known_name DI_Recording B hr hL hS hno wok ok q b0 b1 b2 b3 b4 b5 b7 b8 t1 t2 t3 t4 t5 g0 z0 s1 np hp s2 L2 g2 z2 ht s3 L3 s03 u1 u2 u3 u4 u5 g3 z3 s4 np2 hp2 s5 L5 g5 z5 s6 L6 hv g6 z6 s7 L7 g7 z7 s8 L8 g8 z8 s9 L9 g9 z9 s10 L10 g10 z10; omega), fun H11 s11 L11 => ?_⟩)
  (obtain ⟨_, _, g11, z11⟩ := LnAt.no L11 (m := "read_field") (by decide +kernel) (by decide +kernel) (by decide +kernel) (by decide +kernel); refine ⟨_, rfl, a, _, _, rfl, g11, z11, a, _, 16, _, _, _, sd.rank, rfl, L11, rfl, rfl, by (clear T D_names_of D_Line_read_new_name D_Line_read_field D_Line_read_choice D_Line_read_known_name DI_Recording B hr hL hS hno wok ok q b0 b1 b2 b3 b4 b5 b6 b8 t1 t2 t3 t4 t5 g0 z0 s1 np hp s2 L2 g2 z2 ht s3 L3 s03 u1 u2 u3 u4 u5 g3 z3 s4 np2 hp2 s5 L5 g5 z5 s6 L6 hv g6 z6 s7 L7 g7 z7 s8 L8 g8 z8 s9 L9 g9 z9 s10 L10 g10 z10 s11 L11 g11 z11; omega), by (clear T D_names_of D_Line_read_new_name D_Line_read_field D_Line_read_choice D_Line_read_known_name DI_Recording B hr hL hS hno wok ok q b0 b1 b2 b3 b4 b5 b6 b8 t1 t2 t3 t4 t5 g0 z0 s1 np hp s2 L2 g2 z2 ht s3 L3 s03 u1 u2 u3 u4 u5 g3 z3 s4 np2 hp2 s5 L5 g5 z5 s6 L6 hv g6 z6 s7 L7 g7 z7 s8 L8 g8 z8 s9 L9 g9 z9 s10 L10 g10 z10 s11 L11 g11 z11; omega), by (clear T D_names_of D_Line_read_new_name D_Line_read_field D_Line_read_choice D_Line_read_known_name DI_Recording B hr hL hS hno wok ok q b0 b1 b2 b3 b4 b5 b6 b8 t1 t2 t3 t4 t5 g0 z0 s1 np hp s2 L2 g2 z2 ht s3 L3 s03 u1 u2 u3 u4 u5 g3 z3 s4 np2 hp2 s5 L5 g5 z5 s6 L6 hv g6 z6 s7 L7 g7 z7 s8 L8 g8 z8 s9 L9 g9 z9 s10 L10 g10 z10 s11 L11 g11 z11; omega), by (clear T D_names_of D_Line_read_new_name D_Line_read_field D_Line_read_choice D_Line_read_known_name DI_Recording B hr hL hS hno wok ok q b0 b1 b2 b3 b4 b5 b6 b8 t1 t2 t3 t4 t5 g0 z0 s1 np hp s2 L2 g2 z2 ht s3 L3 s03 u1 u2 u3 u4 u5 g3 z3 s4 np2 hp2 s5 L5 g5 z5 s6 L6 hv g6 z6 s7 L7 g7 z7 s8 L8 g8 z8 s9 L9 g9 z9 s10 L10 g10 z10 s11 L11 g11 z11; omega), fun H12 s12 L12 => ?_⟩)
  (obtain ⟨_, _, g12, z12⟩ := LnAt.no L12 (m := "read_field") (by decide +kernel) (by decide +kernel) (by decide +kernel) (by decide +kernel); refine ⟨_, rfl, a, _, _, rfl, g12, z12, _, rfl, a, _, 18, _, _, _, sd.deadline, rfl, L12, rfl, rfl, by omega, by omega, by omega, by (clear T D_names_of D_Line_read_new_name D_Line_read_field D_Line_read_choice D_Line_read_known_name DI_Recording B hr hL hS hno wok ok q b0 b1 b2 b3 b4 b5 b6 b7 t1 t2 t3 t4 t5 g0 z0 s1 np hp s2 L2 g2 z2 ht s3 L3 s03 u1 u2 u3 u4 u5 g3 z3 s4 np2 hp2 s5 L5 g5 z5 s6 L6 hv g6 z6 s7 L7 g7 z7 s8 L8 g8 z8 s9 L9 g9 z9 s10 L10 g10 z10 s11 L11 g11 z11 s12 L12 g12 z12; omega), fun H13 s13 L13 => ?_⟩)
  refine ⟨_, rfl, _, rfl, _, rfl, _, rfl, _, rfl, _, rfl, _, rfl, _, rfl, _, rfl, _, rfl, fun x dx hx hdx ne => ?_⟩
  refine ⟨x, dx, _, _, _, _, _, _, _, _, _, _, rfl, upd_same, rfl, ?_⟩
  have sA : SameX a H H13 := (((((((((s03.trans (SameX.of s4)).trans s5).trans s6).trans s7).trans s8).trans s9).trans s10).trans s11).trans s12).trans s13
  have sB := same_made (o := .own x) (u := .ins CR dx []) (v := .ins CR dx (recF sd)) hx hdx
  obtain ⟨o, ho⟩ := L13.there
  exact q x _ (sA.free ho hx) (sA.trans (SameX.of sB)) (L13.same sB) ⟨x, dx, rfl, upd_same⟩
def spRdPas (K : PySem.W.Frag) (CL CP : Addr) : Sp := fun vs H Q _ => ∃ (a : Addr) (th : Addr) (W : WorldD) (s : PasD) (ns : List Str), vs = [.ref a, .int W.horizon, .ref th] ∧ LnAt CL H a (wPas W s) 1 ∧ NamesAt K H th 3 ns ∧ NamesAt K H th 0 (W.sats.map (·.name)) ∧ NamesAt K H th 1 (W.stas.map (·.name)) ∧ s.name ∉ ns ∧ WorldOk W ∧ PasOk W s ∧
  ∀ b H', H b = none → SameX a H H' → LnAt CL H' a (wPas W s) (wPas W s).length → PasAt K CP H' (.ref b) s → Q (.ref b) H'
theorem d_read_pass (T : TxtW K mg CL CS CT CR CP CW aS aR fS fT fR fP) (D_names_of : DefOk P w K mg base CX0 1 "names_of" ["things"] (spNames K)) (D_Line_read_new_name : MDef P w K mg base CX0 4 CL "read_new_name" ["self", "used"] [] (spNewName K CL))
    (D_Line_read_field : MDef P w K mg base CX0 4 CL "read_field" ["self", "word", "least", "most"] [] (spField CL)) (D_Line_read_choice : MDef P w K mg base CX0 3 CL "read_choice" ["self", "choices"] [] (spChoice K CL))
    (D_Line_read_known_name : MDef P w K mg base CX0 4 CL "read_known_name" ["self", "names", "least"] [.int 0] (spKnownName K CL))
    (DI_Pass : MDef P w K mg base CX0 1 CP "__init__" ["self", "name", "satellite", "station", "span", "room", "energy", "fee"] [] (spI_Pass CP))
    (A : At K mg "read_pass" s_read_pass ["line", "horizon", "things"]) : DefOk P w K mg base CX0 5 "read_pass" ["line", "horizon", "things"] (spRdPas K CL CP) := by
  have B := T.L.B
  refine A.ok sc_read_pass (fun vs H Q E h => ?_) (fun f cdv A outer s H vs Q E hr h => ?_)
  · obtain ⟨a, th, W, s, ns, rfl, _⟩ := h
    rfl
  obtain ⟨a, th, W, sd, ns, rfl, hL, hN, hS, hT, hno, wok, ok, q⟩ := h
  refine ⟨_, pss_cons (ps_set (i := 3) sc_read_pass.nd rfl (Or.inl rfl) (pe_m D_Line_read_new_name T.c_Line.cl (hr.mono (by omega)) pass0 (pv 0) (pa_cons (pe_f D_names_of (hr.mono (by omega)) pass0 (pa_cons (pe_ix ix_tup (pv 2) (pe_gi T.g_PASSES) (fun _ _ => rfl)) pa_nil)) pa_nil)))
  (pss_cons (ps_expr (pe_m D_Line_read_choice T.c_Line.cl (hr.mono (by omega)) pass0 (pv 0) (pa_cons (pe_tup (pa_cons pe_str pa_nil)) pa_nil)))
  (pss_cons (ps_set (i := 4) sc_read_pass.nd rfl (Or.inl rfl) (pe_m D_Line_read_known_name T.c_Line.cl (hr.mono (by omega)) pass0 (pv 0) (pa_cons (pe_f D_names_of (hr.mono (by omega)) pass0 (pa_cons (pe_ix ix_tup (pv 2) (pe_gi T.g_SATELLITES) (fun _ _ => rfl)) pa_nil)) pa_nil)))
  (pss_cons (ps_expr (pe_m D_Line_read_choice T.c_Line.cl (hr.mono (by omega)) pass0 (pv 0) (pa_cons (pe_tup (pa_cons pe_str pa_nil)) pa_nil)))
  (pss_cons (ps_set (i := 5) sc_read_pass.nd rfl (Or.inl rfl) (pe_m D_Line_read_known_name T.c_Line.cl (hr.mono (by omega)) pass0 (pv 0) (pa_cons (pe_f D_names_of (hr.mono (by omega)) pass0 (pa_cons (pe_ix ix_tup (pv 2) (pe_gi T.g_STATIONS) (fun _ _ => rfl)) pa_nil)) pa_nil)))
  (pss_cons (ps_set (i := 6) sc_read_pass.nd rfl (Or.inl rfl) (pe_m D_Line_read_field T.c_Line.cl (hr.mono (by omega)) pass0 (pv 0) (pa_cons pe_str (pa_cons pe_int (pa_cons (pe_op op_sub (pv 1) pe_int) pa_nil)))))
  (pss_cons (ps_set (i := 7) sc_read_pass.nd rfl (Or.inl rfl) (pe_m D_Line_read_field T.c_Line.cl (hr.mono (by omega)) pass0 (pv 0) (pa_cons pe_str (pa_cons (pe_op op_add (pv 6) pe_int) (pa_cons (pv 1) pa_nil)))))
  (pss_cons (ps_set (i := 8) sc_read_pass.nd rfl (Or.inl rfl) (pe_m D_Line_read_field T.c_Line.cl (hr.mono (by omega)) pass0 (pv 0) (pa_cons pe_str (pa_cons pe_int (pa_cons (pe_gi T.g_MOST_UNITS) pa_nil)))))
  (pss_cons (ps_set (i := 9) sc_read_pass.nd rfl (Or.inl rfl) (pe_m D_Line_read_field T.c_Line.cl (hr.mono (by omega)) pass0 (pv 0) (pa_cons pe_str (pa_cons pe_int (pa_cons (pe_gi T.g_MOST_UNITS) pa_nil)))))
  (pss_cons (ps_set (i := 10) sc_read_pass.nd rfl (Or.inl rfl) (pe_m D_Line_read_field T.c_Line.cl (hr.mono (by omega)) pass0 (pv 0) (pa_cons pe_str (pa_cons pe_int (pa_cons (pe_gi T.g_MOST_FEE) pa_nil)))))
  (pss_one (ps_ret (pe_mk DI_Pass T.c_Pass (hr.mono (by omega)) pass0 (pa_cons (pv 3) (pa_cons (pv 4) (pa_cons (pv 5) (pa_cons (pe_tup (pa_cons (pv 6) (pa_cons (pv 7) pa_nil))) (pa_cons (pv 8) (pa_cons (pv 9) (pa_cons (pv 10) pa_nil)))))))))))))))))))
    , ?_⟩
  have b0 := wok.horizon; have b1 := ok.first; have b2 := ok.fin; have b3 := ok.room; have b4 := ok.energy; have b5 := ok.fee
  obtain ⟨ls, l, xs, t1, t2, t3, t4, t5⟩ := hN
  obtain ⟨_, _, g0, z0⟩ := LnAt.no hL (m := "read_new_name") (by decide +kernel) (by decide +kernel) (by decide +kernel) (by decide +kernel)
  refine ⟨_, rfl, a, _, _, rfl, g0, z0, _, rfl, th, _, _, .ref l, rfl, rfl, t1, atI_nat (j := 3) (by rw [List.getElem?_map, t2]; rfl), l, xs, ns, rfl, t3, t4, t5, fun p H1 s1 np hp => ?_⟩
  refine ⟨a, _, 1, p, ns, sd.name, rfl, hL.same s1, SqL.of hp, rfl, ok.name, hno, fun H2 s2 L2 => ?_⟩
  obtain ⟨_, _, g2, z2⟩ := LnAt.no L2 (m := "read_choice") (by decide +kernel) (by decide +kernel) (by decide +kernel) (by decide +kernel)
  refine ⟨_, rfl, a, _, _, rfl, g2, z2, (by show 1 ≤ sizeLine; decide), fun t ht => ?_⟩
  refine ⟨a, _, 2, t, [Str.ofString "by"], Str.ofString "by", rfl, L2.same (same_new ht _), SqT.of upd_same, rfl, List.mem_cons_self, fun H3 s3 L3 => ?_⟩
  have s03 : SameX a H H3 := (((SameX.of s1).trans s2).trans (SameX.of (same_new ht _))).trans s3
  obtain ⟨ls', l', xs', u1, u2, u3, u4, u5⟩ := hS.sameX hL s03
  obtain ⟨_, _, g3, z3⟩ := LnAt.no L3 (m := "read_known_name") (by decide +kernel) (by decide +kernel) (by decide +kernel) (by decide +kernel)
  refine ⟨_, rfl, a, _, _, rfl, g3, z3, _, rfl, th, _, _, .ref l', rfl, rfl, u1, atI_nat (j := 0) (by rw [List.getElem?_map, u2]; rfl), l', xs', _, rfl, u3, u4, u5, fun p2 H4 s4 np2 hp2 => ?_⟩
  refine ⟨a, _, 3, p2, _, satN W sd.sat, sd.sat, 0, rfl, L3.same s4, SqL.of hp2, rfl, satN_ok wok ok.sat, satN_at ok.sat, wok.dSats, by (clear T D_names_of D_Line_read_new_name D_Line_read_field D_Line_read_choice D_Line_read_known_name DI_Pass B hr hL hS hT hno wok ok q b0 b1 b2 b3 b4 b5 t1 t2 t3 t4 t5 g0 z0 s1 np hp s2 L2 g2 z2 ht s3 L3 s03 u1 u2 u3 u4 u5 g3 z3 s4 np2 hp2; omega), fun H5 s5 L5 => ?_⟩
  obtain ⟨_, _, g5, z5⟩ := LnAt.no L5 (m := "read_choice") (by decide +kernel) (by decide +kernel) (by decide +kernel) (by decide +kernel)
  refine ⟨_, rfl, a, _, _, rfl, g5, z5, (by show 1 ≤ sizeLine; decide), fun t3 ht3 => ?_⟩
  refine ⟨a, _, 4, t3, [Str.ofString "over"], Str.ofString "over", rfl, L5.same (same_new ht3 _), SqT.of upd_same, rfl, List.mem_cons_self, fun H6 s6 L6 => ?_⟩
  have s06 : SameX a H H6 := (((s03.trans (SameX.of s4)).trans s5).trans (SameX.of (same_new ht3 _))).trans s6
  obtain ⟨ls6, l6, xs6, v1, v2, v3, v4, v5⟩ := hT.sameX hL s06
  obtain ⟨_, _, g6, z6⟩ := LnAt.no L6 (m := "read_known_name") (by decide +kernel) (by decide +kernel) (by decide +kernel) (by decide +kernel)
  refine ⟨_, rfl, a, _, _, rfl, g6, z6, _, rfl, th, _, _, .ref l6, rfl, rfl, v1, atI_nat (j := 1) (by rw [List.getElem?_map, v2]; rfl), l6, xs6, _, rfl, v3, v4, v5, fun p7 H7 s7 np7 hp7 => ?_⟩
  refine ⟨a, _, 5, p7, _, staN W sd.sta, sd.sta, 0, rfl, L6.same s7, SqL.of hp7, rfl, staN_ok wok ok.sta, staN_at ok.sta, wok.dStas, by (clear T D_names_of D_Line_read_new_name D_Line_read_field D_Line_read_choice D_Line_read_known_name DI_Pass B hr hL hS hT hno wok ok q b0 b1 b2 b3 b4 b5 t1 t2 t4 t5 g0 z0 s1 np hp s2 L2 g2 z2 ht s3 L3 s03 u1 u2 u3 u4 u5 g3 z3 s4 np2 hp2 s5 L5 g5 z5 ht3 s6 L6 s06 v1 v2 v3 v4 v5 g6 z6 s7 np7 hp7; omega), fun H8 s8 L8 => ?_⟩
  (obtain ⟨_, _, g8, z8⟩ := LnAt.no L8 (m := "read_field") (by decide +kernel) (by decide +kernel) (by decide +kernel) (by decide +kernel); refine ⟨_, rfl, a, _, _, rfl, g8, z8, _, rfl, _, _, rfl, rfl, a, _, 6, _, _, _, sd.first, rfl, L8, rfl, rfl, by omega, by omega, by omega, by omega, fun H9 s9 L9 => ?_⟩)
  (obtain ⟨_, _, g9, z9⟩ := LnAt.no L9 (m := "read_field") (by decide +kernel) (by decide +kernel) (by decide +kernel) (by decide +kernel); refine ⟨_, rfl, a, _, _, rfl, g9, z9, _, rfl, _, _, rfl, rfl, _, rfl, a, _, 8, _, _, _, sd.fin, rfl, L9, rfl, rfl, by omega, by omega, by (clear T D_names_of D_Line_read_new_name D_Line_read_field D_Line_read_choice D_Line_read_known_name DI_Pass B hr hL hS hT hno wok ok q b0 b1 b3 b4 b5 t1 t2 t4 t5 g0 z0 s1 np hp s2 L2 g2 z2 ht s3 L3 s03 u1 u2 u3 u4 u5 g3 z3 s4 np2 hp2 s5 L5 g5 z5 ht3 s6 L6 s06 v1 v2 v3 v4 v5 g6 z6 s7 np7 hp7 s8 L8 g8 z8 s9 L9 g9 z9; omega), by omega, fun H10 s10 L10 => ?_⟩)
  (obtain ⟨_, _, g10, z10⟩ := LnAt.no L10 (m := "read_field") (by decide +kernel) (by decide +kernel) (by decide +kernel) (by decide +kernel); refine ⟨_, rfl, a, _, _, rfl, g10, z10, a, _, 10, _, _, _, sd.room, rfl, L10, rfl, rfl, by (clear T D_names_of D_Line_read_new_name D_Line_read_field D_Line_read_choice D_Line_read_known_name DI_Pass B hr hL hS hT hno wok ok q b0 b1 b2 b4 b5 t1 t2 t4 t5 g0 z0 s1 np hp s2 L2 g2 z2 ht s3 L3 s03 u1 u2 u3 u4 u5 g3 z3 s4 np2 hp2 s5 L5 g5 z5 ht3 s6 L6 s06 v1 v2 v3 v4 v5 g6 z6 s7 np7 hp7 s8 L8 g8 z8 s9 L9 g9 z9 s10 L10 g10 z10; omega), by (clear T D_names_of D_Line_read_new_name D_Line_read_field D_Line_read_choice D_Line_read_known_name DI_Pass B hr hL hS hT hno wok ok q b0 b1 b2 b4 b5 t1 t2 t4 t5 g0 z0 s1 np hp s2 L2 g2 z2 ht s3 L3 s03 u1 u2 u3 u4 u5 g3 z3 s4 np2 hp2 s5 L5 g5 z5 ht3 s6 L6 s06 v1 v2 v3 v4 v5 g6 z6 s7 np7 hp7 s8 L8 g8 z8 s9 L9 g9 z9 s10 L10 g10 z10; omega), by (clear T D_names_of D_Line_read_new_name D_Line_read_field D_Line_read_choice D_Line_read_known_name DI_Pass B hr hL hS hT hno wok ok q b0 b1 b2 b4 b5 t1 t2 t4 t5 g0 z0 s1 np hp s2 L2 g2 z2 ht s3 L3 s03 u1 u2 u3 u4 u5 g3 z3 s4 np2 hp2 s5 L5 g5 z5 ht3 s6 L6 s06 v1 v2 v3 v4 v5 g6 z6 s7 np7 hp7 s8 L8 g8 z8 s9 L9 g9 z9 s10 L10 g10 z10; omega), by (clear T D_names_of D_Line_read_new_name D_Line_read_field D_Line_read_choice D_Line_read_known_name DI_Pass B hr hL hS hT hno wok ok q b0 b1 b2 b4 b5 t1 t2 t4 t5 g0 z0 s1 np hp s2 L2 g2 z2 ht s3 L3 s03 u1 u2 u3 u4 u5 g3 z3 s4 np2 hp2 s5 L5 g5 z5 ht3 s6 L6 s06 v1 v2 v3 v4 v5 g6 z6 s7 np7 hp7 s8 L8 g8 z8 s9 L9 g9 z9 s10 L10 g10 z10; omega), fun H11 s11 L11 => ?_⟩)
  (obtain ⟨_, _, g11, z11⟩ := LnAt.no L11 (m := "read_field") (by decide +kernel) (by decide +kernel) (by decide +kernel) (by decide +kernel); refine ⟨_, rfl, a, _, _, rfl, g11, z11, a, _, 12, _, _, _, sd.energy, rfl, L11, rfl, rfl, by (clear T D_names_of D_Line_read_new_name D_Line_read_field D_Line_read_choice D_Line_read_known_name DI_Pass B hr hL hS hT hno wok ok q b0 b1 b2 b3 b5 t1 t2 t4 t5 g0 z0 s1 np hp s2 L2 g2 z2 ht s3 L3 s03 u1 u2 u3 u4 u5 g3 z3 s4 np2 hp2 s5 L5 g5 z5 ht3 s6 L6 s06 v1 v2 v3 v4 v5 g6 z6 s7 np7 hp7 s8 L8 g8 z8 s9 L9 g9 z9 s10 L10 g10 z10 s11 L11 g11 z11; omega), by (clear T D_names_of D_Line_read_new_name D_Line_read_field D_Line_read_choice D_Line_read_known_name DI_Pass B hr hL hS hT hno wok ok q b0 b1 b2 b3 b5 t1 t2 t4 t5 g0 z0 s1 np hp s2 L2 g2 z2 ht s3 L3 s03 u1 u2 u3 u4 u5 g3 z3 s4 np2 hp2 s5 L5 g5 z5 ht3 s6 L6 s06 v1 v2 v3 v4 v5 g6 z6 s7 np7 hp7 s8 L8 g8 z8 s9 L9 g9 z9 s10 L10 g10 z10 s11 L11 g11 z11; omega), by (clear T D_names_of D_Line_read_new_name D_Line_read_field D_Line_read_choice D_Line_read_known_name DI_Pass B hr hL hS hT hno wok ok q b0 b1 b2 b3 b5 t1 t2 t4 t5 g0 z0 s1 np hp s2 L2 g2 z2 ht s3 L3 s03 u1 u2 u3 u4 u5 g3 z3 s4 np2 hp2 s5 L5 g5 z5 ht3 s6 L6 s06 v1 v2 v3 v4 v5 g6 z6 s7 np7 hp7 s8 L8 g8 z8 s9 L9 g9 z9 s10 L10 g10 z10 s11 L11 g11 z11; omega), by (clear T D_names_of D_Line_read_new_name D_Line_read_field D_Line_read_choice D_Line_read_known_name DI_Pass B hr hL hS hT hno wok ok q b0 b1 b2 b3 b5 t1 t2 t4 t5 g0 z0 s1 np hp s2 L2 g2 z2 ht s3 L3 s03 u1 u2 u3 u4 u5 g3 z3 s4 np2 hp2 s5 L5 g5 z5 ht3 s6 L6 s06 v1 v2 v3 v4 v5 g6 z6 s7 np7 hp7 s8 L8 g8 z8 s9 L9 g9 z9 s10 L10 g10 z10 s11 L11 g11 z11; omega), fun H12 s12 L12 => ?_⟩)
  (obtain ⟨_, _, g12, z12⟩ := LnAt.no L12 (m := "read_field") (by decide +kernel) (by decide +kernel) (by decide +kernel) (by decide +kernel); refine ⟨_, rfl, a, _, _, rfl, g12, z12, a, _, 14, _, _, _, sd.fee, rfl, L12, rfl, rfl, by (clear T D_names_of D_Line_read_new_name D_Line_read_field D_Line_read_choice D_Line_read_known_name DI_Pass B hr hL hS hT hno wok ok q b0 b1 b2 b3 b4 t1 t2 t4 t5 g0 z0 s1 np hp s2 L2 g2 z2 ht s3 L3 s03 u1 u2 u3 u4 u5 g3 z3 s4 np2 hp2 s5 L5 g5 z5 ht3 s6 L6 s06 v1 v2 v3 v4 v5 g6 z6 s7 np7 hp7 s8 L8 g8 z8 s9 L9 g9 z9 s10 L10 g10 z10 s11 L11 g11 z11 s12 L12 g12 z12; omega), by (clear T D_names_of D_Line_read_new_name D_Line_read_field D_Line_read_choice D_Line_read_known_name DI_Pass B hr hL hS hT hno wok ok q b0 b1 b2 b3 b4 t1 t2 t4 t5 g0 z0 s1 np hp s2 L2 g2 z2 ht s3 L3 s03 u1 u2 u3 u4 u5 g3 z3 s4 np2 hp2 s5 L5 g5 z5 ht3 s6 L6 s06 v1 v2 v3 v4 v5 g6 z6 s7 np7 hp7 s8 L8 g8 z8 s9 L9 g9 z9 s10 L10 g10 z10 s11 L11 g11 z11 s12 L12 g12 z12; omega), by (clear T D_names_of D_Line_read_new_name D_Line_read_field D_Line_read_choice D_Line_read_known_name DI_Pass B hr hL hS hT hno wok ok q b0 b1 b2 b3 b4 t1 t2 t4 t5 g0 z0 s1 np hp s2 L2 g2 z2 ht s3 L3 s03 u1 u2 u3 u4 u5 g3 z3 s4 np2 hp2 s5 L5 g5 z5 ht3 s6 L6 s06 v1 v2 v3 v4 v5 g6 z6 s7 np7 hp7 s8 L8 g8 z8 s9 L9 g9 z9 s10 L10 g10 z10 s11 L11 g11 z11 s12 L12 g12 z12; omega), by (clear T D_names_of D_Line_read_new_name D_Line_read_field D_Line_read_choice D_Line_read_known_name DI_Pass B hr hL hS hT hno wok ok q b0 b1 b2 b3 b4 t1 t2 t4 t5 g0 z0 s1 np hp s2 L2 g2 z2 ht s3 L3 s03 u1 u2 u3 u4 u5 g3 z3 s4 np2 hp2 s5 L5 g5 z5 ht3 s6 L6 s06 v1 v2 v3 v4 v5 g6 z6 s7 np7 hp7 s8 L8 g8 z8 s9 L9 g9 z9 s10 L10 g10 z10 s11 L11 g11 z11 s12 L12 g12 z12; omega), fun H13 s13 L13 => ?_⟩)
  refine ⟨_, rfl, _, rfl, _, rfl, _, rfl, _, rfl, (by show 2 ≤ sizeLine; decide), fun sp hsp => ⟨_, rfl, _, rfl, _, rfl, fun x dx hx hdx ne => ?_⟩⟩
  refine ⟨x, dx, _, _, _, _, _, _, _, rfl, upd_same, rfl, ?_⟩
  have sA : SameX a H (upd H13 sp (.tup [.int sd.first, .int sd.fin])) := (((((((s06.trans (SameX.of s7)).trans s8).trans s9).trans s10).trans s11).trans s12).trans s13).trans (SameX.of (same_new hsp _))
  have sB := same_made (o := .own x) (u := .ins CP dx []) (v := .ins CP dx (pasF sd sp)) hx hdx
  have L14 := L13.same (same_new hsp (.tup [.int sd.first, .int sd.fin]))
  obtain ⟨o, ho⟩ := L14.there
  exact q x _ (sA.free ho hx) (sA.trans (SameX.of sB)) (L14.same sB) ⟨x, dx, sp, rfl, upd_same, SqT.of (sB _ _ upd_same)⟩
end
end DP
namespace DP
open PySem PySem.Spec PyProof.Rows L2
section
variable {K : PySem.W.Frag} {CL CS CT CR CP : Addr} {H H' : Hp} {a L : Addr} {ws : List Str} {r : Nat} {x : V} {ys : List V} {o : HO}
theorem SatAt.same {s : SatD} (h : SatAt K CS H x s) (z : Same H H') : SatAt K CS H' x s := by
  obtain ⟨b, dx, t, ls, h1, h2, h3, h4⟩ := h
  exact ⟨b, dx, t, ls, h1, z _ _ h2, Same.tup z h3, h4.same z⟩
theorem StaAt.same {s : StaD} (h : StaAt CT H x s) (z : Same H H') : StaAt CT H' x s := by
  obtain ⟨b, dx, h1, h2⟩ := h
  exact ⟨b, dx, h1, z _ _ h2⟩
theorem RecAt.same {s : RecD} (h : RecAt CR H x s) (z : Same H H') : RecAt CR H' x s := by
  obtain ⟨b, dx, h1, h2⟩ := h
  exact ⟨b, dx, h1, z _ _ h2⟩
theorem PasAt.same {s : PasD} (h : PasAt K CP H x s) (z : Same H H') : PasAt K CP H' x s := by
  obtain ⟨b, dx, t, h1, h2, h3⟩ := h
  exact ⟨b, dx, t, h1, z _ _ h2, Same.tup z h3⟩
theorem SatAt.sx {s : SatD} (h : SatAt K CS H x s) (hL : LnAt CL H a ws r) (z : SameX a H H') : SatAt K CS H' x s := by
  obtain ⟨dx', n, wl, c, g1, g2⟩ := hL.ex
  obtain ⟨b, dx, t, ls, h1, h2, h3, h4⟩ := h
  exact ⟨b, dx, t, ls, h1, z.ins g1 h2 (by show 8 ≠ 4; decide), z.sqT g1 h3, z.spans g1 h4⟩
theorem StaAt.sx {s : StaD} (h : StaAt CT H x s) (hL : LnAt CL H a ws r) (z : SameX a H H') : StaAt CT H' x s := by
  obtain ⟨dx', n, wl, c, g1, g2⟩ := hL.ex
  obtain ⟨b, dx, h1, h2⟩ := h
  exact ⟨b, dx, h1, z.ins g1 h2 (by show 3 ≠ 4; decide)⟩
theorem RecAt.sx {s : RecD} (h : RecAt CR H x s) (hL : LnAt CL H a ws r) (z : SameX a H H') : RecAt CR H' x s := by
  obtain ⟨dx', n, wl, c, g1, g2⟩ := hL.ex
  obtain ⟨b, dx, h1, h2⟩ := h
  exact ⟨b, dx, h1, z.ins g1 h2 (by show 10 ≠ 4; decide)⟩
theorem PasAt.sx {s : PasD} (h : PasAt K CP H x s) (hL : LnAt CL H a ws r) (z : SameX a H H') : PasAt K CP H' x s := by
  obtain ⟨dx', n, wl, c, g1, g2⟩ := hL.ex
  obtain ⟨b, dx, t, h1, h2, h3⟩ := h
  exact ⟨b, dx, t, h1, z.ins g1 h2 (by show 7 ≠ 4; decide), z.sqT g1 h3⟩
theorem SatAt.up {s : SatD} (h : SatAt K CS H x s) (e : H L = some (.lst ys)) : SatAt K CS (L2.upd H L o) x s := by
  obtain ⟨b, dx, t, ls, h1, h2, h3, h4⟩ := h
  exact ⟨b, dx, t, ls, h1, by rw [upd_ne (ne_of h2 e (fun z => nomatch z))]; exact h2, sqT_upd h3 e, h4.upd e⟩
theorem StaAt.up {s : StaD} (h : StaAt CT H x s) (e : H L = some (.lst ys)) : StaAt CT (L2.upd H L o) x s := by
  obtain ⟨b, dx, h1, h2⟩ := h
  exact ⟨b, dx, h1, by rw [upd_ne (ne_of h2 e (fun z => nomatch z))]; exact h2⟩
theorem RecAt.up {s : RecD} (h : RecAt CR H x s) (e : H L = some (.lst ys)) : RecAt CR (L2.upd H L o) x s := by
  obtain ⟨b, dx, h1, h2⟩ := h
  exact ⟨b, dx, h1, by rw [upd_ne (ne_of h2 e (fun z => nomatch z))]; exact h2⟩
theorem PasAt.up {s : PasD} (h : PasAt K CP H x s) (e : H L = some (.lst ys)) : PasAt K CP (L2.upd H L o) x s := by
  obtain ⟨b, dx, t, h1, h2, h3⟩ := h
  exact ⟨b, dx, t, h1, by rw [upd_ne (ne_of h2 e (fun z => nomatch z))]; exact h2, sqT_upd h3 e⟩
/-- a line stays where a list of objects is changed -/
theorem LnAt.up (h : LnAt CL H a ws r) (hne : ws ≠ []) (e : H L = some (.lst ys)) (hr : ∀ y ∈ ys, ∃ t, y = V.ref t) : LnAt CL (L2.upd H L o) a ws r := by
  obtain ⟨dx, n, wl, c, h1, h2⟩ := h.ex
  refine ⟨⟨dx, n, wl, c, by rw [upd_ne (ne_of h1 e (fun z => nomatch z))]; exact h1, ?_⟩, h.ok⟩
  rw [upd_ne]
  · exact h2
  · intro z
    rw [z, e] at h2
    have e2 : ys = ws.map V.str := HO.lst.inj (Option.some.inj h2)
    cases ws with
    | nil => exact hne rfl
    | cons w wr =>
      obtain ⟨t, ht⟩ := hr (.str w) (by rw [e2]; exact List.mem_cons_self)
      cases ht
theorem LnAt.sx {b : Addr} {vs : List Str} {q : Nat} (h : LnAt CL H a ws r) (hL : LnAt CL H b vs q) (n : a ≠ b) (z : SameX b H H') : LnAt CL H' a ws r := by
  obtain ⟨dx', n', wl', c', g1, g2⟩ := hL.ex
  obtain ⟨dx, m, wl, c, h1, h2⟩ := h.ex
  exact ⟨⟨dx, m, wl, c, z _ _ n h1, z _ _ (ne_of h2 g1 (fun z => nomatch z)) h2⟩, h.ok⟩
end
/-- the four lists of a world's things as far as they are read -/
structure Thg (K : PySem.W.Frag) (CS CT CR CP : Addr) (H : Hp) (th l0 l1 l2 l3 : Addr) (S : List SatD) (T : List StaD) (R : List RecD) (P : List PasD) : Prop where
  tup : H th = some (.tup [.ref l0, .ref l1, .ref l2, .ref l3])
  d01 : l0 ≠ l1
  d02 : l0 ≠ l2
  d03 : l0 ≠ l3
  d12 : l1 ≠ l2
  d13 : l1 ≠ l3
  d23 : l2 ≠ l3
  sats : ∃ xs, H l0 = some (.lst xs) ∧ Paired (SatAt K CS H) xs S
  stas : ∃ xs, H l1 = some (.lst xs) ∧ Paired (StaAt CT H) xs T
  recs : ∃ xs, H l2 = some (.lst xs) ∧ Paired (RecAt CR H) xs R
  pass : ∃ xs, H l3 = some (.lst xs) ∧ Paired (PasAt K CP H) xs P
theorem refs_sat {K : PySem.W.Frag} {C : Addr} {H : Hp} {xs : List V} {S : List SatD} (h : Paired (SatAt K C H) xs S) : ∀ y ∈ xs, ∃ t, y = V.ref t := fun y hy => by
  obtain ⟨i, hi, e⟩ := List.mem_iff_getElem.mp hy
  obtain ⟨s, _, b, _, _, _, e1, _⟩ := paired_at h (List.getElem?_eq_getElem hi)
  exact ⟨b, by rw [← e, e1]⟩
theorem refs_sta {C : Addr} {H : Hp} {xs : List V} {S : List StaD} (h : Paired (StaAt C H) xs S) : ∀ y ∈ xs, ∃ t, y = V.ref t := fun y hy => by
  obtain ⟨i, hi, e⟩ := List.mem_iff_getElem.mp hy
  obtain ⟨s, _, b, _, e1, _⟩ := paired_at h (List.getElem?_eq_getElem hi)
  exact ⟨b, by rw [← e, e1]⟩
theorem refs_rec {C : Addr} {H : Hp} {xs : List V} {S : List RecD} (h : Paired (RecAt C H) xs S) : ∀ y ∈ xs, ∃ t, y = V.ref t := fun y hy => by
  obtain ⟨i, hi, e⟩ := List.mem_iff_getElem.mp hy
  obtain ⟨s, _, b, _, e1, _⟩ := paired_at h (List.getElem?_eq_getElem hi)
  exact ⟨b, by rw [← e, e1]⟩
theorem refs_pas {K : PySem.W.Frag} {C : Addr} {H : Hp} {xs : List V} {S : List PasD} (h : Paired (PasAt K C H) xs S) : ∀ y ∈ xs, ∃ t, y = V.ref t := fun y hy => by
  obtain ⟨i, hi, e⟩ := List.mem_iff_getElem.mp hy
  obtain ⟨s, _, b, _, _, e1, _⟩ := paired_at h (List.getElem?_eq_getElem hi)
  exact ⟨b, by rw [← e, e1]⟩
section
variable {K : PySem.W.Frag} {CL CS CT CR CP : Addr} {H H' : Hp} {a th l0 l1 l2 l3 : Addr} {ws : List Str} {r : Nat} {S : List SatD} {T : List StaD} {R : List RecD} {P : List PasD}
theorem Thg.same (h : Thg K CS CT CR CP H th l0 l1 l2 l3 S T R P) (z : Same H H') : Thg K CS CT CR CP H' th l0 l1 l2 l3 S T R P := by
  obtain ⟨x0, a0, b0⟩ := h.sats
  obtain ⟨x1, a1, b1⟩ := h.stas
  obtain ⟨x2, a2, b2⟩ := h.recs
  obtain ⟨x3, a3, b3⟩ := h.pass
  exact ⟨z _ _ h.tup, h.d01, h.d02, h.d03, h.d12, h.d13, h.d23, ⟨x0, z _ _ a0, Paired.mapP b0 fun _ _ y => y.same z⟩, ⟨x1, z _ _ a1, Paired.mapP b1 fun _ _ y => y.same z⟩, ⟨x2, z _ _ a2, Paired.mapP b2 fun _ _ y => y.same z⟩, ⟨x3, z _ _ a3, Paired.mapP b3 fun _ _ y => y.same z⟩⟩
theorem Thg.sx (h : Thg K CS CT CR CP H th l0 l1 l2 l3 S T R P) (hL : LnAt CL H a ws r) (z : SameX a H H') : Thg K CS CT CR CP H' th l0 l1 l2 l3 S T R P := by
  obtain ⟨dx', n', wl', c', g1, g2⟩ := hL.ex
  obtain ⟨x0, a0, b0⟩ := h.sats
  obtain ⟨x1, a1, b1⟩ := h.stas
  obtain ⟨x2, a2, b2⟩ := h.recs
  obtain ⟨x3, a3, b3⟩ := h.pass
  exact ⟨z _ _ (ne_of h.tup g1 (fun z => nomatch z)) h.tup, h.d01, h.d02, h.d03, h.d12, h.d13, h.d23, ⟨x0, z _ _ (ne_of a0 g1 (fun z => nomatch z)) a0, Paired.mapP b0 fun _ _ y => y.sx hL z⟩, ⟨x1, z _ _ (ne_of a1 g1 (fun z => nomatch z)) a1, Paired.mapP b1 fun _ _ y => y.sx hL z⟩,
    ⟨x2, z _ _ (ne_of a2 g1 (fun z => nomatch z)) a2, Paired.mapP b2 fun _ _ y => y.sx hL z⟩, ⟨x3, z _ _ (ne_of a3 g1 (fun z => nomatch z)) a3, Paired.mapP b3 fun _ _ y => y.sx hL z⟩⟩
theorem Thg.push0 {xs : List V} {b : Addr} {s : SatD} (h : Thg K CS CT CR CP H th l0 l1 l2 l3 S T R P) (e : H l0 = some (.lst xs)) (k : SatAt K CS H (.ref b) s) : Thg K CS CT CR CP (L2.upd H l0 (.lst (xs ++ [.ref b]))) th l0 l1 l2 l3 (S ++ [s]) T R P := by
  obtain ⟨x0, a0, b0⟩ := h.sats
  obtain ⟨x1, a1, b1⟩ := h.stas
  obtain ⟨x2, a2, b2⟩ := h.recs
  obtain ⟨x3, a3, b3⟩ := h.pass
  have ex : x0 = xs := HO.lst.inj (Option.some.inj (a0.symm.trans e))
  subst ex
  exact ⟨by rw [upd_ne (ne_of h.tup e (fun z => nomatch z))]; exact h.tup, h.d01, h.d02, h.d03, h.d12, h.d13, h.d23, ⟨_, upd_same, paired_snoc (Paired.mapP b0 fun _ _ y => y.up e) (k.up e)⟩, ⟨x1, by rw [upd_ne h.d01.symm]; exact a1, Paired.mapP b1 fun _ _ y => y.up e⟩,
    ⟨x2, by rw [upd_ne h.d02.symm]; exact a2, Paired.mapP b2 fun _ _ y => y.up e⟩, ⟨x3, by rw [upd_ne h.d03.symm]; exact a3, Paired.mapP b3 fun _ _ y => y.up e⟩⟩
theorem Thg.push1 {xs : List V} {b : Addr} {s : StaD} (h : Thg K CS CT CR CP H th l0 l1 l2 l3 S T R P) (e : H l1 = some (.lst xs)) (k : StaAt CT H (.ref b) s) : Thg K CS CT CR CP (L2.upd H l1 (.lst (xs ++ [.ref b]))) th l0 l1 l2 l3 S (T ++ [s]) R P := by
  obtain ⟨x0, a0, b0⟩ := h.sats
  obtain ⟨x1, a1, b1⟩ := h.stas
  obtain ⟨x2, a2, b2⟩ := h.recs
  obtain ⟨x3, a3, b3⟩ := h.pass
  have ex : x1 = xs := HO.lst.inj (Option.some.inj (a1.symm.trans e))
  subst ex
  exact ⟨by rw [upd_ne (ne_of h.tup e (fun z => nomatch z))]; exact h.tup, h.d01, h.d02, h.d03, h.d12, h.d13, h.d23, ⟨x0, by rw [upd_ne h.d01]; exact a0, Paired.mapP b0 fun _ _ y => y.up e⟩, ⟨_, upd_same, paired_snoc (Paired.mapP b1 fun _ _ y => y.up e) (k.up e)⟩,
    ⟨x2, by rw [upd_ne h.d12.symm]; exact a2, Paired.mapP b2 fun _ _ y => y.up e⟩, ⟨x3, by rw [upd_ne h.d13.symm]; exact a3, Paired.mapP b3 fun _ _ y => y.up e⟩⟩
theorem Thg.push2 {xs : List V} {b : Addr} {s : RecD} (h : Thg K CS CT CR CP H th l0 l1 l2 l3 S T R P) (e : H l2 = some (.lst xs)) (k : RecAt CR H (.ref b) s) : Thg K CS CT CR CP (L2.upd H l2 (.lst (xs ++ [.ref b]))) th l0 l1 l2 l3 S T (R ++ [s]) P := by
  obtain ⟨x0, a0, b0⟩ := h.sats
  obtain ⟨x1, a1, b1⟩ := h.stas
  obtain ⟨x2, a2, b2⟩ := h.recs
  obtain ⟨x3, a3, b3⟩ := h.pass
  have ex : x2 = xs := HO.lst.inj (Option.some.inj (a2.symm.trans e))
  subst ex
  exact ⟨by rw [upd_ne (ne_of h.tup e (fun z => nomatch z))]; exact h.tup, h.d01, h.d02, h.d03, h.d12, h.d13, h.d23, ⟨x0, by rw [upd_ne h.d02]; exact a0, Paired.mapP b0 fun _ _ y => y.up e⟩, ⟨x1, by rw [upd_ne h.d12]; exact a1, Paired.mapP b1 fun _ _ y => y.up e⟩,
    ⟨_, upd_same, paired_snoc (Paired.mapP b2 fun _ _ y => y.up e) (k.up e)⟩, ⟨x3, by rw [upd_ne h.d23.symm]; exact a3, Paired.mapP b3 fun _ _ y => y.up e⟩⟩
theorem Thg.push3 {xs : List V} {b : Addr} {s : PasD} (h : Thg K CS CT CR CP H th l0 l1 l2 l3 S T R P) (e : H l3 = some (.lst xs)) (k : PasAt K CP H (.ref b) s) : Thg K CS CT CR CP (L2.upd H l3 (.lst (xs ++ [.ref b]))) th l0 l1 l2 l3 S T R (P ++ [s]) := by
  obtain ⟨x0, a0, b0⟩ := h.sats
  obtain ⟨x1, a1, b1⟩ := h.stas
  obtain ⟨x2, a2, b2⟩ := h.recs
  obtain ⟨x3, a3, b3⟩ := h.pass
  have ex : x3 = xs := HO.lst.inj (Option.some.inj (a3.symm.trans e))
  subst ex
  exact ⟨by rw [upd_ne (ne_of h.tup e (fun z => nomatch z))]; exact h.tup, h.d01, h.d02, h.d03, h.d12, h.d13, h.d23, ⟨x0, by rw [upd_ne h.d03]; exact a0, Paired.mapP b0 fun _ _ y => y.up e⟩, ⟨x1, by rw [upd_ne h.d13]; exact a1, Paired.mapP b1 fun _ _ y => y.up e⟩,
    ⟨x2, by rw [upd_ne h.d23]; exact a2, Paired.mapP b2 fun _ _ y => y.up e⟩, ⟨_, upd_same, paired_snoc (Paired.mapP b3 fun _ _ y => y.up e) (k.up e)⟩⟩
end
theorem paired_map {α β γ : Type} {F : α → β → Prop} {G : α → γ → Prop} {f : β → γ} (h : ∀ a b, F a b → G a (f b)) : ∀ {xs : List α} {ys : List β}, Paired F xs ys → Paired G xs (ys.map f)
  | _, _, .nil => .nil
  | _, _, .cons a t => .cons (h _ _ a) (paired_map h t)
section
variable {K : PySem.W.Frag} {mg : Str → Option Value} {CL CS CT CR CP CW aS aR fS fT fR fP : Addr} {H : Hp} {th l0 l1 l2 l3 : Addr} {S : List SatD} {T : List StaD} {R : List RecD} {P : List PasD}
theorem Thg.list (h : Thg K CS CT CR CP H th l0 l1 l2 l3 S T R P) : SqT K H th (([l0, l1, l2, l3]).map V.ref) := SqT.of h.tup
theorem Thg.n0 (X : TxtW K mg CL CS CT CR CP CW aS aR fS fT fR fP) (h : Thg K CS CT CR CP H th l0 l1 l2 l3 S T R P) (hl : S.length ≤ 100) : NamesAt K H th 0 (S.map (·.name)) := by
  obtain ⟨xs, a, b⟩ := h.sats
  exact ⟨[l0, l1, l2, l3], l0, xs, h.list, rfl, SqL.of a, paired_map (fun _ _ ⟨b, dx, t, ls, h1, h2, _⟩ => ⟨b, CS, dx, _, h1, h2, X.c_Satellite.cl, X.n_Satellite_name, lk_hit⟩) b, by rw [List.length_map]; exact hl⟩
theorem Thg.n1 (X : TxtW K mg CL CS CT CR CP CW aS aR fS fT fR fP) (h : Thg K CS CT CR CP H th l0 l1 l2 l3 S T R P) (hl : T.length ≤ 100) : NamesAt K H th 1 (T.map (·.name)) := by
  obtain ⟨xs, a, b⟩ := h.stas
  exact ⟨[l0, l1, l2, l3], l1, xs, h.list, rfl, SqL.of a, paired_map (fun _ _ ⟨b, dx, h1, h2⟩ => ⟨b, CT, dx, _, h1, h2, X.c_Station.cl, X.n_Station_name, lk_hit⟩) b, by rw [List.length_map]; exact hl⟩
theorem Thg.n2 (X : TxtW K mg CL CS CT CR CP CW aS aR fS fT fR fP) (h : Thg K CS CT CR CP H th l0 l1 l2 l3 S T R P) (hl : R.length ≤ 100) : NamesAt K H th 2 (R.map (·.name)) := by
  obtain ⟨xs, a, b⟩ := h.recs
  exact ⟨[l0, l1, l2, l3], l2, xs, h.list, rfl, SqL.of a, paired_map (fun _ _ ⟨b, dx, h1, h2⟩ => ⟨b, CR, dx, _, h1, h2, X.c_Recording.cl, X.n_Recording_name, lk_hit⟩) b, by rw [List.length_map]; exact hl⟩
theorem Thg.n3 (X : TxtW K mg CL CS CT CR CP CW aS aR fS fT fR fP) (h : Thg K CS CT CR CP H th l0 l1 l2 l3 S T R P) (hl : P.length ≤ 100) : NamesAt K H th 3 (P.map (·.name)) := by
  obtain ⟨xs, a, b⟩ := h.pass
  exact ⟨[l0, l1, l2, l3], l3, xs, h.list, rfl, SqL.of a, paired_map (fun _ _ ⟨b, dx, t, h1, h2, _⟩ => ⟨b, CP, dx, _, h1, h2, X.c_Pass.cl, X.n_Pass_name, lk_hit⟩) b, by rw [List.length_map]; exact hl⟩
end
end DP
namespace DP
open PySem PySem.Spec PyProof.Rows L2
/-- what is read ahead of the i-th line behind the first one -/
def preS (W : WorldD) (i : Nat) : List SatD := W.sats.take i
def preT (W : WorldD) (i : Nat) : List StaD := W.stas.take (i - W.sats.length)
def preR (W : WorldD) (i : Nat) : List RecD := W.recs.take (i - W.sats.length - W.stas.length)
def preP (W : WorldD) (i : Nat) : List PasD := W.pass.take (i - W.sats.length - W.stas.length - W.recs.length)
/-- the lines behind the first one -/
def restW (W : WorldD) : List (List Str) := W.sats.map wSat ++ W.stas.map wSta ++ W.recs.map (wRec W) ++ W.pass.map (wPas W)
/-- the sort of the i-th -/
def kindW (W : WorldD) (i : Nat) : Nat := if i < W.sats.length then 0 else if i < W.sats.length + W.stas.length then 1 else if i < W.sats.length + W.stas.length + W.recs.length then 2 else 3
theorem restW_len (W : WorldD) : (restW W).length = W.sats.length + W.stas.length + W.recs.length + W.pass.length := by
  unfold restW
  rw [List.length_append, List.length_append, List.length_append, List.length_map, List.length_map, List.length_map, List.length_map]
theorem take_snoc {α : Type} {l : List α} {i : Nat} {x : α} (h : l[i]? = some x) : l.take (i + 1) = l.take i ++ [x] := by
  rw [List.take_add_one, h]
  rfl
theorem sub_lo {i a : Nat} (h : i < a) : i + 1 - a = i - a := by rw [Nat.sub_eq_zero_of_le h, Nat.sub_eq_zero_of_le (Nat.le_of_lt h)]
theorem sub_hi {i a : Nat} (h : ¬ i < a) : i + 1 - a = i - a + 1 := Nat.succ_sub (Nat.not_lt.mp h)
theorem sub_in {i a b : Nat} (h : ¬ i < a) : i - a < b ↔ i < a + b := Nat.sub_lt_iff_lt_add' (Nat.not_lt.mp h)
/-- the i-th line, by its sort -/
theorem restW_at (W : WorldD) {i : Nat} (hi : i < (restW W).length) :
    (∃ s, kindW W i = 0 ∧ s ∈ W.sats ∧ (restW W)[i]? = some (wSat s) ∧ W.sats[i]? = some s ∧ preS W (i + 1) = preS W i ++ [s] ∧ preT W (i + 1) = preT W i ∧ preR W (i + 1) = preR W i ∧ preP W (i + 1) = preP W i) ∨
    (∃ s, kindW W i = 1 ∧ s ∈ W.stas ∧ (restW W)[i]? = some (wSta s) ∧ W.stas[i - W.sats.length]? = some s ∧ preS W (i + 1) = preS W i ∧ preT W (i + 1) = preT W i ++ [s] ∧ preR W (i + 1) = preR W i ∧ preP W (i + 1) = preP W i ∧ preS W i = W.sats) ∨
    (∃ s, kindW W i = 2 ∧ s ∈ W.recs ∧ (restW W)[i]? = some (wRec W s) ∧ W.recs[i - W.sats.length - W.stas.length]? = some s ∧ preS W (i + 1) = preS W i ∧ preT W (i + 1) = preT W i ∧ preR W (i + 1) = preR W i ++ [s] ∧ preP W (i + 1) = preP W i ∧ preS W i = W.sats ∧ preT W i = W.stas) ∨
    (∃ s, kindW W i = 3 ∧ s ∈ W.pass ∧ (restW W)[i]? = some (wPas W s) ∧ W.pass[i - W.sats.length - W.stas.length - W.recs.length]? = some s ∧ preS W (i + 1) = preS W i ∧ preT W (i + 1) = preT W i ∧ preR W (i + 1) = preR W i ∧ preP W (i + 1) = preP W i ++ [s] ∧ preS W i = W.sats ∧ preT W i = W.stas) := by
  rw [restW_len] at hi
  by_cases c0 : i < W.sats.length
  · have e : W.sats[i]? = some W.sats[i] := List.getElem?_eq_getElem c0
    refine .inl ⟨W.sats[i], by unfold kindW; rw [if_pos c0], List.getElem_mem c0, ?_, e, take_snoc e, ?_, ?_, ?_⟩
    · unfold restW
      rw [List.append_assoc, List.append_assoc, List.getElem?_append_left (by rw [List.length_map]; exact c0), List.getElem?_map, e]
      rfl
    · unfold preT; rw [sub_lo c0]
    · unfold preR; rw [sub_lo c0]
    · unfold preP; rw [sub_lo c0]
  have aS : ∀ j, W.sats.length ≤ j → preS W j = W.sats := fun j hj => List.take_of_length_le hj
  have d0 := Nat.not_lt.mp c0
  have e0 := Nat.le_succ_of_le d0
  by_cases c1 : i < W.sats.length + W.stas.length
  · have hj : i - W.sats.length < W.stas.length := (sub_in c0).mpr c1
    have e : W.stas[i - W.sats.length]? = some W.stas[i - W.sats.length] := List.getElem?_eq_getElem hj
    refine .inr (.inl ⟨_, by unfold kindW; rw [if_neg c0, if_pos c1], List.getElem_mem hj, ?_, e, by rw [aS _ e0, aS _ d0], ?_, ?_, ?_, aS _ d0⟩)
    · unfold restW
      rw [List.append_assoc, List.append_assoc, List.getElem?_append_right (by rw [List.length_map]; exact d0), List.length_map, List.getElem?_append_left (by rw [List.length_map]; exact hj), List.getElem?_map, e]
      rfl
    · unfold preT; rw [sub_hi c0]; exact take_snoc e
    · unfold preR; rw [sub_hi c0, sub_lo hj]
    · unfold preP; rw [sub_hi c0, sub_lo hj]
  have aT : ∀ j, W.sats.length + W.stas.length ≤ j → preT W j = W.stas := fun j hj => List.take_of_length_le (Nat.le_sub_of_add_le' hj)
  have n1 : ¬ i - W.sats.length < W.stas.length := fun z => c1 ((sub_in c0).mp z)
  have d1 := Nat.not_lt.mp c1
  have e1 := Nat.le_succ_of_le d1
  have d2 := Nat.not_lt.mp n1
  by_cases c2 : i < W.sats.length + W.stas.length + W.recs.length
  · have hj : i - W.sats.length - W.stas.length < W.recs.length := (sub_in n1).mpr ((sub_in c0).mpr (by rw [← Nat.add_assoc]; exact c2))
    have e : W.recs[i - W.sats.length - W.stas.length]? = some W.recs[i - W.sats.length - W.stas.length] := List.getElem?_eq_getElem hj
    refine .inr (.inr (.inl ⟨_, by unfold kindW; rw [if_neg c0, if_neg c1, if_pos c2], List.getElem_mem hj, ?_, e, by rw [aS _ e0, aS _ d0], by rw [aT _ e1, aT _ d1], ?_, ?_, aS _ d0, aT _ d1⟩))
    · unfold restW
      rw [List.append_assoc, List.append_assoc, List.getElem?_append_right (by rw [List.length_map]; exact d0), List.length_map, List.getElem?_append_right (by rw [List.length_map]; exact d2), List.length_map, List.getElem?_append_left (by rw [List.length_map]; exact hj), List.getElem?_map, e]
      rfl
    · unfold preR; rw [sub_hi c0, sub_hi n1]; exact take_snoc e
    · unfold preP; rw [sub_hi c0, sub_hi n1, sub_lo hj]
  have n2 : ¬ i - W.sats.length - W.stas.length < W.recs.length := fun z => c2 (by rw [Nat.add_assoc]; exact (sub_in c0).mp ((sub_in n1).mp z))
  have d3 := Nat.not_lt.mp n2
  have d4 := Nat.not_lt.mp c2
  have e4 := Nat.le_succ_of_le d4
  have hj : i - W.sats.length - W.stas.length - W.recs.length < W.pass.length := (sub_in n2).mpr ((sub_in n1).mpr ((sub_in c0).mpr (by rw [← Nat.add_assoc, ← Nat.add_assoc]; exact hi)))
  have e : W.pass[i - W.sats.length - W.stas.length - W.recs.length]? = some W.pass[i - W.sats.length - W.stas.length - W.recs.length] := List.getElem?_eq_getElem hj
  have aR : ∀ j, W.sats.length + W.stas.length + W.recs.length ≤ j → preR W j = W.recs := fun j hj => List.take_of_length_le (Nat.le_sub_of_add_le' (Nat.le_sub_of_add_le' (by rw [← Nat.add_assoc]; exact hj)))
  refine .inr (.inr (.inr ⟨_, by unfold kindW; rw [if_neg c0, if_neg c1, if_neg c2], List.getElem_mem hj, ?_, e, by rw [aS _ e0, aS _ d0], by rw [aT _ e1, aT _ d1], by rw [aR _ e4, aR _ d4], ?_, aS _ d0, aT _ d1⟩))
  · unfold restW
    rw [List.append_assoc, List.append_assoc, List.getElem?_append_right (by rw [List.length_map]; exact d0), List.length_map, List.getElem?_append_right (by rw [List.length_map]; exact d2), List.length_map, List.getElem?_append_right (by rw [List.length_map]; exact d3), List.length_map, List.getElem?_map, e]
    rfl
  · unfold preP; rw [sub_hi c0, sub_hi n1, sub_hi n2]; exact take_snoc e
theorem kindW_mono (W : WorldD) (i : Nat) : kindW W i ≤ kindW W (i + 1) := by
  unfold kindW
  by_cases c0 : i < W.sats.length
  · rw [if_pos c0]; exact Nat.zero_le _
  rw [if_neg c0, if_neg (show ¬ i + 1 < W.sats.length by omega)]
  by_cases c1 : i < W.sats.length + W.stas.length
  · rw [if_pos c1]
    split
    · exact Nat.le_refl _
    · split <;> omega
  rw [if_neg c1, if_neg (show ¬ i + 1 < W.sats.length + W.stas.length by omega)]
  by_cases c2 : i < W.sats.length + W.stas.length + W.recs.length
  · rw [if_pos c2]
    split <;> omega
  · rw [if_neg c2, if_neg (show ¬ i + 1 < W.sats.length + W.stas.length + W.recs.length by omega)]
    exact Nat.le_refl _
/-- a name is not among those ahead of it -/
theorem fresh_name {α : Type} {f : α → Str} {l : List α} {i : Nat} {s : α} (hd : (l.map f).Nodup) (h : l[i]? = some s) : f s ∉ (l.take i).map f := fun z => by
  obtain ⟨t, ht, e⟩ := List.mem_map.mp z
  obtain ⟨j, hj, ej⟩ := List.mem_iff_getElem.mp ht
  rw [List.getElem_take] at ej
  rw [List.length_take] at hj
  obtain ⟨hi, es⟩ := List.getElem?_eq_some_iff.mp h
  have h1 : (l.map f)[j]'(by rw [List.length_map]; omega) = (l.map f)[i]'(by rw [List.length_map]; exact hi) := by
    rw [List.getElem_map, List.getElem_map, ej, es]
    exact e
  have := (List.getElem_inj hd).mp h1
  omega
def sortsL : List Str := ["satellite", "station", "recording", "pass"]
section
variable {P : Program} {w : World} {K : PySem.W.Frag} {mg : Str → Option Value} {base : Heap} {CL CS CT CR CP CW aS aR fS fT fR fP : Addr}
def mostK : List Int := [3, 3, 10, 10]
def spMost : Sp := fun vs H Q _ => ∃ (i : Nat) (m : Int), vs = [.int (i : Int)] ∧ mostK[i]? = some m ∧ ∀ H', Same H H' → Q (.int m) H'
theorem d_most_things (T : TxtW K mg CL CS CT CR CP CW aS aR fS fT fR fP) (A : At K mg "most_things" s_most_things ["sort"]) : DefOk P w K mg base CX0 1 "most_things" ["sort"] spMost := by
  have B := T.L.B
  refine A.ok sc_most_things (fun vs H Q E h => ?_) (fun f cdv A outer s H vs Q E hr h => ?_)
  · obtain ⟨i, m, rfl, _⟩ := h
    rfl
  obtain ⟨i, m, rfl, hi, q⟩ := h
  refine ⟨_, pss_cons (ps_set (i := 1) sc_most_things.nd rfl (Or.inl rfl) (pe_tup (pa_cons (ClX.pe_cval (pe_ga T.c_World.gC) rfl) (pa_cons (ClX.pe_cval (pe_ga T.c_World.gC) rfl) (pa_cons (ClX.pe_cval (pe_ga T.c_World.gC) rfl) (pa_cons (ClX.pe_cval (pe_ga T.c_World.gC) rfl) pa_nil))))))
  (pss_one (ps_ret (pe_ix ix_tup (pv 1) (pv 0) (fun _ _ => rfl))))
    , ?_⟩
  obtain ⟨k1, h1⟩ := T.v_MOST_SATELLITES
  obtain ⟨k2, h2⟩ := T.v_MOST_STATIONS
  obtain ⟨k3, h3⟩ := T.v_MOST_RECORDINGS
  obtain ⟨k4, h4⟩ := T.v_MOST_PASSES
  refine ⟨CW, _, _, _, rfl, T.rdW, h1, CW, _, _, _, rfl, T.rdW, h2, CW, _, _, _, rfl, T.rdW, h3, CW, _, _, _, rfl, T.rdW, h4, (by show 4 ≤ sizeLine; decide), fun p hp => ?_⟩
  refine ⟨_, rfl, _, rfl, p, _, _, .int m, rfl, rfl, SqT.of upd_same, atI_nat ?_, q _ (same_new hp _)⟩
  have e : ([V.int 3, V.int 3, V.int 10, V.int 10] : List V) = mostK.map V.int := rfl
  rw [e, List.getElem?_map, hi]
  rfl
def spSort (K : PySem.W.Frag) (CL : Addr) : Sp := fun vs H Q _ => ∃ (a : Addr) (ws : List Str) (ahead : Int) (th : Addr) (ls : List Addr) (l : Addr) (xs : List V) (i : Nat) (u : Str) (m : Int), vs = [.ref a, .int ahead, .ref th] ∧ LnAt CL H a ws 0 ∧ ws[0]? = some u ∧ sortsL[i]? = some u ∧ ahead ≤ (i : Int) ∧
  SqT K H th (ls.map V.ref) ∧ ls[i]? = some l ∧ SqL K H l xs ∧ mostK[i]? = some m ∧ (xs.length : Int) < m ∧ ∀ H', SameX a H H' → LnAt CL H' a ws 1 → Q (.int (i : Int)) H'
theorem sorts_first {u : Str} : ∀ {i : Nat}, sortsL[i]? = some u → ∀ m, m < i → sortsL[m]? ≠ some u := by
  have nd : sortsL.Nodup := by decide +kernel
  intro i h m hm z
  obtain ⟨h1, e1⟩ := List.getElem?_eq_some_iff.mp h
  obtain ⟨h2, e2⟩ := List.getElem?_eq_some_iff.mp z
  have := (List.getElem_inj nd).mp (e1.trans e2.symm)
  omega
theorem d_read_sort (T : TxtW K mg CL CS CT CR CP CW aS aR fS fT fR fP) (D_Line_due : MDef P w K mg base CX0 2 CL "due" ["self"] [] (spDue CL)) (D_Line_step : MDef P w K mg base CX0 1 CL "step" ["self"] [] (spStep CL)) (D_most_things : DefOk P w K mg base CX0 1 "most_things" ["sort"] spMost)
    (A : At K mg "read_sort" s_read_sort ["line", "ahead", "things"]) : DefOk P w K mg base CX0 3 "read_sort" ["line", "ahead", "things"] (spSort K CL) := by
  have B := T.L.B
  refine A.ok sc_read_sort (fun vs H Q E h => ?_) (fun f cdv A outer s H vs Q E hr h => ?_)
  · obtain ⟨a, ws, ahead, th, ls, l, xs, i, u, m, rfl, _⟩ := h
    rfl
  obtain ⟨a, ws, ahead, th, ls, l, xs, i, u, m, rfl, hL, hu, hi, hah, h1, h2, h3, h4, h5, q⟩ := h
  refine ⟨_, pss_cons (ps_set (i := 3) sc_read_sort.nd rfl (Or.inl rfl) (pe_m0 D_Line_due T.c_Line.cl (hr.mono (by omega)) pass0 (pv 0)))
  (pss_cons (ps_if (pt_cmpR op_notIn_seq (pv 3) (pe_ga T.g_SORTS) (by rfl))
      (pss_one (ps_never))
      (pss_nil))
  (pss_cons (ps_set (i := 4) sc_read_sort.nd rfl (Or.inl rfl) (pe_bm PySem.F.plainAttrs_tuple PySem.F.slot_tuple_index PySem.F.type_tuple_index mt_tup_index (pe_ga T.g_SORTS) (pa_cons (pv 3) pa_nil)))
  (pss_cons (ps_if (pt_cmpR op_lt (pv 4) (pv 1) (nomark _))
      (pss_one (ps_never))
      (pss_nil))
  (pss_cons (ps_if (pt_cmpR op_eq (pe_callB (call_len_seq) (by rfl) B.len (by decide +kernel) (pa_cons (pe_ix ix_tup (pv 2) (pv 4) (fun _ _ => rfl)) pa_nil)) (pe_f D_most_things (hr.mono (by omega)) pass0 (pa_cons (pv 4) pa_nil)) (nomark _))
      (pss_one (ps_never))
      (pss_nil))
  (pss_cons (ps_expr (pe_m0 D_Line_step T.c_Line.cl (hr.mono (by omega)) pass0 (pv 0)))
  (pss_one (ps_ret (pv 4))))))))
    , ?_⟩
  have hm : u ∈ sortsL := List.mem_of_getElem? hi
  have hr' : 0 < ws.length := (List.getElem?_eq_some_iff.mp hu).1
  obtain ⟨dx, fs, g0, z0⟩ := LnAt.no hL (m := "due") (by decide +kernel) (by decide +kernel) (by decide +kernel) (by decide +kernel)
  refine ⟨_, rfl, a, _, _, rfl, g0, z0, a, ws, 0, u, rfl, hL, hu, ?_⟩
  refine ⟨_, rfl, aS, _, rfl, .inr (T.t_SORTS H), rfl, flat_strs, _, rfl, iteF' (by rw [show (([("satellite" : Str), "station", "recording", "pass"]).map V.str) = sortsL.map V.str from rfl, inV_str, decide_eq_true hm]; rfl) ?_⟩
  obtain ⟨o, ho1, ho2, ho3⟩ := T.k_SORTS
  refine ⟨.inr (.inl ⟨rfl, o, ho1, ho2, ho3⟩), _, rfl, aS, sortsL, u, i, rfl, rfl, T.t_SORTS H, hi, sorts_first hi, ?_⟩
  refine ⟨_, rfl, _, rfl, _, _, rfl, rfl, _, rfl, iteF' (decide_eq_false (by omega)) ?_⟩
  refine ⟨_, rfl, _, rfl, th, _, _, .ref l, rfl, rfl, h1, atI_nat (by rw [List.getElem?_map, h2]; rfl), l, xs, rfl, .inl h3, _, rfl, i, m, rfl, h4, fun H1 s1 => ?_⟩
  refine ⟨rfl, _, rfl, iteF' (decide_eq_false fun z => by have := V.int.inj z; (clear T D_Line_due D_Line_step D_most_things B hr hL hu hi hah h1 h2 h3 h4 q hm hr' g0 z0 ho1 ho2 ho3 s1 z; omega)) ?_⟩
  obtain ⟨dx, fs, g1, z1⟩ := LnAt.no (hL.same s1) (m := "step") (by decide +kernel) (by decide +kernel) (by decide +kernel) (by decide +kernel)
  refine ⟨_, rfl, a, _, _, rfl, g1, z1, a, ws, 0, rfl, hL.same s1, hr', fun H2 s2 L2 => ?_⟩
  exact ⟨_, rfl, q H2 ((SameX.of s1).trans s2) L2⟩
end
end DP
namespace DP
open PySem PySem.Spec PyProof.Rows L2
def SameA (as : List Addr) (H H' : Hp) : Prop := ∀ b o, b ∉ as → H b = some o → H' b = some o
theorem SameA.trans {as : List Addr} {H H1 H2 : Hp} (x : SameA as H H1) (y : SameA as H1 H2) : SameA as H H2 := fun b o n h => y b o n (x b o n h)
theorem SameA.of {as : List Addr} {H H' : Hp} (s : Same H H') : SameA as H H' := fun b o _ h => s b o h
theorem SameA.ofX {as : List Addr} {a : Addr} {H H' : Hp} (s : SameX a H H') (h : a ∈ as) : SameA as H H' := fun b o n q => s b o (fun z => n (z ▸ h)) q
theorem SameA.new {as : List Addr} {H H' : Hp} {L : Addr} {o : HO} (hL : H L = none) (s : SameA as H H') : SameA as H (upd H' L o) := fun b u n h => by
  rw [upd_ne (ne_of_none h hL)]
  exact s b u n h
theorem at_ne {K : PySem.W.Frag} {mg : Str → Option Value} {x y : Str} {st st' : Stmt} {ps ps' : List Str} {f g : Addr} (A : At K mg x st ps) (B : At K mg y st' ps') (hf : mg x = some (.ref f)) (hg : mg y = some (.ref g)) (n : x ≠ y) : f ≠ g := fun z => by
  obtain ⟨f', fd, F, e1, _⟩ := A.ex
  obtain ⟨g', gd, G, e2, _⟩ := B.ex
  rw [hf] at e1
  rw [hg] at e2
  cases e1
  cases e2
  obtain ⟨_, _, _, _, _, _, _, _, _, e3, l1, _⟩ := F.ex
  obtain ⟨_, _, _, _, _, _, _, _, _, e4, l2, _⟩ := G.ex
  rw [← z, l1] at l2
  have e : fd = gd := by
    injection Option.some.inj l2 with _ _ h _
    injection h
  have e5 := congrArg FuncData.name (e3.symm.trans (e.trans e4))
  exact n e5
section
variable {P : Program} {w : World} {K : PySem.W.Frag} {mg : Str → Option Value} {base : Heap} {CL CS CT CR CP CW aS aR fS fT fR fP : Addr}
def rdS (K : PySem.W.Frag) (CL CS CT CR CP fS fT fR fP : Addr) (f : Addr) : Option Sp := if f = fS then some (spRdSat K CL CS) else if f = fT then some (spRdSta K CL CT) else if f = fR then some (spRdRec K CL CR) else if f = fP then some (spRdPas K CL CP) else none
theorem held_of {x : Str} {ps : List Str} {sp : Sp} {k : Nat} {f : Addr} (D : DefOk P w K mg base CX0 k x ps sp) (h : mg x = some (.ref f)) : Held P w K mg base k f sp := by
  obtain ⟨g, fd, G, m, kp, b, _⟩ := D.ex
  rw [h] at m
  cases m
  exact ⟨fd, ps, G, kp, b⟩
def spThings (K : PySem.W.Frag) (CL CS CT CR CP : Addr) : Sp := fun vs H Q _ => ∃ (p : Addr) (as : List Addr) (W : WorldD), vs = [.ref p, .int W.horizon] ∧ SqL K H p (as.map V.ref) ∧ as.Nodup ∧ WorldOk W ∧ Paired (fun a l => LnAt CL H a l 0) as (restW W) ∧
  ∀ th l0 l1 l2 l3 H', SameA as H H' → Thg K CS CT CR CP H' th l0 l1 l2 l3 W.sats W.stas W.recs W.pass → Q (.ref th) H'
set_option maxHeartbeats 8000000 in
theorem d_read_things (T : TxtW K mg CL CS CT CR CP CW aS aR fS fT fR fP) (D_read_sort : DefOk P w K mg base CX0 3 "read_sort" ["line", "ahead", "things"] (spSort K CL))
    (D1 : DefOk P w K mg base CX0 5 "read_satellite" ["line", "horizon", "things"] (spRdSat K CL CS)) (D2 : DefOk P w K mg base CX0 5 "read_station" ["line", "_", "things"] (spRdSta K CL CT))
    (D3 : DefOk P w K mg base CX0 5 "read_recording" ["line", "horizon", "things"] (spRdRec K CL CR)) (D4 : DefOk P w K mg base CX0 5 "read_pass" ["line", "horizon", "things"] (spRdPas K CL CP))
    (n1 : fT ≠ fS) (n2 : fR ≠ fS) (n3 : fR ≠ fT) (n4 : fP ≠ fS) (n5 : fP ≠ fT) (n6 : fP ≠ fR)
    (D_Line_finish : MDef P w K mg base CX0 3 CL "finish" ["self"] [] (spFinish CL)) (A : At K mg "read_things" s_read_things ["lines", "horizon"]) : DefOk P w K mg base CX0 6 "read_things" ["lines", "horizon"] (spThings K CL CS CT CR CP) := by
  have B := T.L.B
  have HA : ∀ f sp, rdS K CL CS CT CR CP fS fT fR fP f = some sp → Held P w K mg base 5 f sp := fun f sp h => by
    unfold rdS at h
    by_cases c1 : f = fS
    · rw [if_pos c1] at h
      cases h
      rw [c1]
      exact held_of D1 T.r_satellite
    rw [if_neg c1] at h
    by_cases c2 : f = fT
    · rw [if_pos c2] at h
      cases h
      rw [c2]
      exact held_of D2 T.r_station
    rw [if_neg c2] at h
    by_cases c3 : f = fR
    · rw [if_pos c3] at h
      cases h
      rw [c3]
      exact held_of D3 T.r_recording
    rw [if_neg c3] at h
    by_cases c4 : f = fP
    · rw [if_pos c4] at h
      cases h
      rw [c4]
      exact held_of D4 T.r_pass
    rw [if_neg c4] at h
    cases h
  have S0 : rdS K CL CS CT CR CP fS fT fR fP fS = some (spRdSat K CL CS) := by unfold rdS; rw [if_pos rfl]
  have S1 : rdS K CL CS CT CR CP fS fT fR fP fT = some (spRdSta K CL CT) := by unfold rdS; rw [if_neg n1, if_pos rfl]
  have S2 : rdS K CL CS CT CR CP fS fT fR fP fR = some (spRdRec K CL CR) := by unfold rdS; rw [if_neg n2, if_neg n3, if_pos rfl]
  have S3 : rdS K CL CS CT CR CP fS fT fR fP fP = some (spRdPas K CL CP) := by unfold rdS; rw [if_neg n4, if_neg n5, if_neg n6, if_pos rfl]
  refine A.ok sc_read_things (fun vs H Q E h => ?_) (fun f cdv A outer s H vs Q E hr h => ?_)
  · obtain ⟨p, as, W, rfl, _⟩ := h
    rfl
  obtain ⟨p, as, W, rfl, hp, hnd, wok, hpr, q⟩ := h
  have hlen := paired_len hpr
  refine ⟨_, pss_cons (ps_set (i := 2) sc_read_things.nd rfl (Or.inl rfl) (pe_tup (pa_cons (pe_lst pa_nil) (pa_cons (pe_lst pa_nil) (pa_cons (pe_lst pa_nil) (pa_cons (pe_lst pa_nil) pa_nil))))))
  (pss_cons (ps_set (i := 3) sc_read_things.nd rfl (Or.inl rfl) pe_int)
  (pss_cons (ps_for PassesOwn.never rfl (pi_list (pv 0)) (pg_name (i := 4) sc_read_things.nd rfl (Or.inl rfl))
      (pss_cons (ps_set (i := 3) sc_read_things.nd rfl (Or.inl rfl) (pe_f D_read_sort (hr.mono (by omega)) pass0 (pa_cons (pv 4) (pa_cons (pv 3) (pa_cons (pv 2) pa_nil)))))
      (pss_cons (ps_set (i := 5) sc_read_things.nd rfl (Or.inl rfl) (pe_ix ix_tup (pe_ga T.g_READERS) (pv 3) (fun _ _ => rfl)))
      (pss_cons (ps_expr (pe_bm PySem.F.plainAttrs_list PySem.F.slot_list_append PySem.F.type_list_append mt_append (pe_ix ix_tup (pv 2) (pv 3) (fun _ _ => rfl)) (pa_cons (pe_callA (i := 5) (S := rdS K CL CS CT CR CP fS fT fR fP) HA (hr.mono (by omega)) rfl (Or.inl rfl) (pa_cons (pv 4) (pa_cons (pv 1) (pa_cons (pv 2) pa_nil)))) pa_nil)))
      (pss_one (ps_expr (pe_m0 D_Line_finish T.c_Line.cl (hr.mono (by omega)) pass0 (pv 4))))))))
  (pss_one (ps_ret (pv 2)))))
    , ?_⟩
  refine ⟨Nat.zero_le _, fun l0 h0 => ⟨Nat.zero_le _, fun l1 h1 => ⟨Nat.zero_le _, fun l2 h2 => ⟨Nat.zero_le _, fun l3 h3 => ⟨(by show 4 ≤ sizeLine; decide), fun th hth => ?_⟩⟩⟩⟩⟩
  have d01 : l0 ≠ l1 := fun z => by rw [← z, upd_same] at h1; cases h1
  have h1' : H l1 = none := by rw [upd_ne d01.symm] at h1; exact h1
  have d12 : l1 ≠ l2 := fun z => by rw [← z, upd_same] at h2; cases h2
  have d02 : l0 ≠ l2 := fun z => by rw [← z, upd_ne d01, upd_same] at h2; cases h2
  have h2' : H l2 = none := by rw [upd_ne d12.symm, upd_ne d02.symm] at h2; exact h2
  have d23 : l2 ≠ l3 := fun z => by rw [← z, upd_same] at h3; cases h3
  have d13 : l1 ≠ l3 := fun z => by rw [← z, upd_ne d12, upd_same] at h3; cases h3
  have d03 : l0 ≠ l3 := fun z => by rw [← z, upd_ne d02, upd_ne d01, upd_same] at h3; cases h3
  have h3' : H l3 = none := by rw [upd_ne d23.symm, upd_ne d13.symm, upd_ne d03.symm] at h3; exact h3
  have t3 : l3 ≠ th := fun z => by rw [← z, upd_same] at hth; cases hth
  have t2 : l2 ≠ th := fun z => by rw [← z, upd_ne d23, upd_same] at hth; cases hth
  have t1 : l1 ≠ th := fun z => by rw [← z, upd_ne d13, upd_ne d12, upd_same] at hth; cases hth
  have t0 : l0 ≠ th := fun z => by rw [← z, upd_ne d03, upd_ne d02, upd_ne d01, upd_same] at hth; cases hth
  have hth' : H th = none := by rw [upd_ne t3.symm, upd_ne t2.symm, upd_ne t1.symm, upd_ne t0.symm] at hth; exact hth
  have sS : Same H (upd (upd (upd (upd (upd H l0 (.lst [])) l1 (.lst [])) l2 (.lst [])) l3 (.lst [])) th (.tup [.ref l0, .ref l1, .ref l2, .ref l3])) := same_at hth' (same_at h3' (same_at h2' (same_at h1' (same_new h0 _) _) _) _) _
  refine ⟨_, rfl, p, rfl, ⟨_, sS.seq hp⟩, for_list (K := K) (a := p) (xs := as.map V.ref) (fun i σ H' => ∃ (k : Int) (y4 y5 : Option V), σ = [some (.ref p), some (.int W.horizon), some (.ref th), some (.int k), y4, y5] ∧ k ≤ (kindW W i : Int) ∧
      Thg K CS CT CR CP H' th l0 l1 l2 l3 (preS W i) (preT W i) (preR W i) (preP W i) ∧ (∀ j a l, i ≤ j → as[j]? = some a → (restW W)[j]? = some l → LnAt CL H' a l 0) ∧ SameA as H H') ⟨0, none, none, rfl, by (clear T D_read_sort D1 D2 D3 D4 n1 n2 n3 n4 n5 n6 D_Line_finish B HA S0 S1 S2 S3 hr hp hnd wok hpr q hlen h0 h1 h2 h3 hth d01 h1' d12 d02 h2' d23 d13 d03 h3' t3 t2 t1 t0 hth' sS; omega), ?_, ?_, SameA.of sS⟩ (fun i σ H' _ hI => ?_) (fun i x σ H1 hx hI => ?_) (fun σ H1 hI => ?_)⟩
  · have e0 : preS W 0 = [] := rfl
    have e1 : preT W 0 = [] := by unfold preT; rw [Nat.zero_sub]; rfl
    have e2 : preR W 0 = [] := by unfold preR; rw [Nat.zero_sub, Nat.zero_sub]; rfl
    have e3 : preP W 0 = [] := by unfold preP; rw [Nat.zero_sub, Nat.zero_sub, Nat.zero_sub]; rfl
    rw [e0, e1, e2, e3]
    exact ⟨upd_same, d01, d02, d03, d12, d13, d23, ⟨[], by rw [upd_ne t0, upd_ne d03, upd_ne d02, upd_ne d01, upd_same], .nil⟩, ⟨[], by rw [upd_ne t1, upd_ne d13, upd_ne d12, upd_same], .nil⟩, ⟨[], by rw [upd_ne t2, upd_ne d23, upd_same], .nil⟩, ⟨[], by rw [upd_ne t3, upd_same], .nil⟩⟩
  · intro j a l _ ha hl
    obtain ⟨l', hl', hL⟩ := paired_at hpr ha
    rw [hl] at hl'
    cases hl'
    exact hL.same sS
  · obtain ⟨k, y4, y5, rfl, _, _, _, hs⟩ := hI
    rcases hp with (hp | ⟨o, hp⟩) | hp
    · exact .inl (.inl (hs _ _ (fun z => by
        obtain ⟨j, hj, ej⟩ := List.mem_iff_getElem.mp z
        obtain ⟨l, _, hL⟩ := paired_at hpr (List.getElem?_eq_getElem hj)
        rw [ej] at hL
        obtain ⟨dx, n, wl, c, g1, g2⟩ := hL.ex
        rw [hp] at g1
        cases g1) hp))
    · exact .inl (.inr ⟨o, hs _ _ (fun z => by
        obtain ⟨j, hj, ej⟩ := List.mem_iff_getElem.mp z
        obtain ⟨l, _, hL⟩ := paired_at hpr (List.getElem?_eq_getElem hj)
        rw [ej] at hL
        obtain ⟨dx, n, wl, c, g1, g2⟩ := hL.ex
        rw [hp] at g1
        cases g1) hp⟩)
    · exact .inr hp
  · obtain ⟨k, y4, y5, rfl, hk, hT, hLs, hs⟩ := hI
    rw [List.getElem?_map] at hx
    cases ha : as[i]? with
    | none => rw [ha] at hx; cases hx
    | some a =>
    rw [ha] at hx
    have ex : V.ref a = x := Option.some.inj hx
    subst ex
    have hmem : a ∈ as := List.mem_of_getElem? ha
    have hi : i < (restW W).length := by
      rw [← hlen]
      exact (List.getElem?_eq_some_iff.mp ha).1
    have far : ∀ j b, i + 1 ≤ j → as[j]? = some b → b ≠ a := fun j b hj hb z => by
      subst z
      obtain ⟨q1, e1⟩ := List.getElem?_eq_some_iff.mp ha
      obtain ⟨q2, e2⟩ := List.getElem?_eq_some_iff.mp hb
      have := (List.getElem_inj hnd).mp (e1.trans e2.symm)
      (clear T D_read_sort D1 D2 D3 D4 n1 n2 n3 n4 n5 n6 D_Line_finish B HA S0 S1 S2 S3 hr hp hnd wok hpr q hlen h0 h1 h2 h3 hth d01 h1' d12 d02 h2' d23 d13 d03 h3' t3 t2 t1 t0 hth' sS hk hT hLs hs hi hb ha hx hmem q1 e1 q2 e2; omega)
    have neR : ∀ j l, (restW W)[j]? = some l → l ≠ [] := fun j l hl => by
      have hm : l ∈ restW W := List.mem_of_getElem? hl
      exact (linesW_ok wok l (List.mem_cons_of_mem _ hm)).1
    have nS := wok.nSats
    have nT := wok.nStas
    have nR := wok.nRecs
    have nP := wok.nPass
    have lS : (preS W i).length ≤ W.sats.length := by unfold preS; rw [List.length_take]; (clear T D_read_sort D1 D2 D3 D4 n1 n2 n3 n4 n5 n6 D_Line_finish B HA S0 S1 S2 S3 hr hp hnd wok hpr q hlen h0 h1 h2 h3 hth d01 h1' d12 d02 h2' d23 d13 d03 h3' t3 t2 t1 t0 hth' sS hk hT hLs hs ha hx hmem hi far neR nS nT nR nP; omega)
    have lT : (preT W i).length ≤ W.stas.length := by unfold preT; rw [List.length_take]; (clear T D_read_sort D1 D2 D3 D4 n1 n2 n3 n4 n5 n6 D_Line_finish B HA S0 S1 S2 S3 hr hp hnd wok hpr q hlen h0 h1 h2 h3 hth d01 h1' d12 d02 h2' d23 d13 d03 h3' t3 t2 t1 t0 hth' sS hk hT hLs hs ha hx hmem hi far neR nS nT nR nP lS; omega)
    have lR : (preR W i).length ≤ W.recs.length := by unfold preR; rw [List.length_take]; (clear T D_read_sort D1 D2 D3 D4 n1 n2 n3 n4 n5 n6 D_Line_finish B HA S0 S1 S2 S3 hr hp hnd wok hpr q hlen h0 h1 h2 h3 hth d01 h1' d12 d02 h2' d23 d13 d03 h3' t3 t2 t1 t0 hth' sS hk hT hLs hs ha hx hmem hi far neR nS nT nR nP lS lT; omega)
    have lP : (preP W i).length ≤ W.pass.length := by unfold preP; rw [List.length_take]; (clear T D_read_sort D1 D2 D3 D4 n1 n2 n3 n4 n5 n6 D_Line_finish B HA S0 S1 S2 S3 hr hp hnd wok hpr q hlen h0 h1 h2 h3 hth d01 h1' d12 d02 h2' d23 d13 d03 h3' t3 t2 t1 t0 hth' sS hk hT hLs hs ha hx hmem hi far neR nS nT nR nP lS lT lR; omega)
    have km := kindW_mono W i
    rcases restW_at W hi with ⟨s, hkd, hsm, hw, hat, e1, e2, e3, e4⟩ | ⟨s, hkd, hsm, hw, hat, e1, e2, e3, e4, eS⟩ | ⟨s, hkd, hsm, hw, hat, e1, e2, e3, e4, eS, eT⟩ | ⟨s, hkd, hsm, hw, hat, e1, e2, e3, e4, eS, eT⟩
    · have hL := hLs i a _ (Nat.le_refl _) ha hw
      obtain ⟨xs, ax, bx⟩ := hT.sats
      have lx := paired_len bx
      have hlt : (preS W i).length < W.sats.length := by
        have z := (List.getElem?_eq_some_iff.mp hat).1
        unfold preS
        rw [List.length_take]
        (clear T D_read_sort D1 D2 D3 D4 n1 n2 n3 n4 n5 n6 D_Line_finish B HA S0 S1 S2 S3 hr hp hnd wok hpr q hlen h0 h1 h2 h3 hth d01 h1' d12 d02 h2' d23 d13 d03 h3' t3 t2 t1 t0 hth' sS hk hT hLs hs ha hx hmem hi far neR nS nT nR nP lS lT lR lP km hkd hsm hw hat e1 e2 e3 e4 hL ax bx lx; omega)
      refine ⟨_, rfl, _, rfl, _, rfl, a, _, k, th, [l0, l1, l2, l3], l0, xs, 0, "satellite", 3, rfl, hL, rfl, rfl, by (clear T D_read_sort D1 D2 D3 D4 n1 n2 n3 n4 n5 n6 D_Line_finish B HA S0 S1 S2 S3 hr hp hnd wok hpr q hlen h0 h1 h2 h3 hth d01 h1' d12 d02 h2' d23 d13 d03 h3' t3 t2 t1 t0 hth' sS hT hLs hs ha hx hmem hi far neR nS nT nR nP lS lT lR lP km hsm hw hat e1 e2 e3 e4 hL ax bx lx hlt; omega), hT.list, rfl, SqL.of ax, rfl, by (clear T D_read_sort D1 D2 D3 D4 n1 n2 n3 n4 n5 n6 D_Line_finish B HA S0 S1 S2 S3 hr hp hnd wok hpr q hlen h0 h1 h2 h3 hth d01 h1' d12 d02 h2' d23 d13 d03 h3' t3 t2 t1 t0 hth' sS hk hT hLs hs ha hx hmem hi far neR nT nR nP lS lT lR lP km hkd hsm hw hat e1 e2 e3 e4 hL ax bx; omega), fun H2 s1 L1 => ?_⟩
      have hT1 := hT.sx hL s1
      refine ⟨_, rfl, aR, _, _, .ref fS, rfl, rfl, T.t_READERS _, atI_nat (j := 0) rfl, ?_⟩
      obtain ⟨dx0, n0, wl0, c0, g1, g2⟩ := hL.ex
      have ax1 : H2 l0 = some (.lst xs) := s1 _ _ (ne_of ax g1 (fun z => nomatch z)) ax
      refine ⟨_, rfl, _, rfl, th, _, _, .ref l0, rfl, rfl, hT1.list, atI_nat (j := 0) rfl, .inl ⟨rfl, _, SqL.of ax1⟩, fS, _, rfl, S0, _, rfl, _, rfl, _, rfl, ?_⟩
      refine ⟨a, W.horizon, th, s, _, rfl, L1, (hT.n0 T (by (clear T D_read_sort D1 D2 D3 D4 n1 n2 n3 n4 n5 n6 D_Line_finish B HA S0 S1 S2 S3 hr hp hnd wok hpr q hlen h0 h1 h2 h3 hth d01 h1' d12 d02 h2' d23 d13 d03 h3' t3 t2 t1 t0 hth' sS hk hT hLs hs ha hx hmem hi far neR nT nR nP lS lT lR lP km hkd hsm hw hat e1 e2 e3 e4 hL ax bx s1 L1 hT1 g1 g2 ax1; omega))).sameX hL s1, (fresh_name (f := (·.name)) wok.dSats hat), wok.sats s hsm, wok.horizon.1, wok.horizon.2, fun b H3 nb s2 L2 o2 => ?_⟩
      have hT2 := hT1.sx L1 s2
      obtain ⟨dx1, n1', wl1, c1, g3, g4⟩ := L1.ex
      have ax2 : H3 l0 = some (.lst xs) := s2 _ _ (ne_of ax1 g3 (fun z => nomatch z)) ax1
      refine ⟨l0, xs, .ref b, rfl, rfl, ax2, small1000 (by (clear T D_read_sort D1 D2 D3 D4 n1 n2 n3 n4 n5 n6 D_Line_finish B HA S0 S1 S2 S3 hr hp hnd wok hpr q hlen h0 h1 h2 h3 hth d01 h1' d12 d02 h2' d23 d13 d03 h3' t3 t2 t1 t0 hth' sS hk hT hLs hs ha hx hmem hi far neR nT nR nP lS lT lR lP km hkd hsm hw hat e1 e2 e3 e4 hL ax bx s1 L1 hT1 g1 g2 ax1 nb s2 L2 o2 hT2 g3 g4 ax2; omega)), ?_⟩
      have rf := refs_sat bx
      have L3 := L2.up (o := .lst (xs ++ [.ref b])) (neR i _ hw) ax2 rf
      obtain ⟨dx2, fs2, g5, z5⟩ := LnAt.no L3 (m := "finish") (by decide +kernel) (by decide +kernel) (by decide +kernel) (by decide +kernel)
      refine ⟨_, rfl, a, _, _, rfl, g5, z5, a, _, rfl, L3, ?_⟩
      refine ⟨(0 : Int), some (.ref a), some (.ref fS), rfl, by (clear T D_read_sort D1 D2 D3 D4 n1 n2 n3 n4 n5 n6 D_Line_finish B HA S0 S1 S2 S3 hr hp hnd wok hpr q hlen h0 h1 h2 h3 hth d01 h1' d12 d02 h2' d23 d13 d03 h3' t3 t2 t1 t0 hth' sS hk hT hLs hs ha hx hmem hi far neR nS nT nR nP lS lT lR lP hsm hw hat e1 e2 e3 e4 hL ax bx lx hlt s1 L1 hT1 g1 g2 ax1 nb s2 L2 o2 hT2 g3 g4 ax2 rf L3 g5 z5; omega), ?_, fun j d l hj hd hl => ?_, SameA.new h0 ((hs.trans (SameA.ofX s1 hmem)).trans (SameA.ofX s2 hmem))⟩
      · rw [e1, e2, e3, e4]
        exact hT2.push0 ax2 o2
      · have nd := far j d hj hd
        exact (((hLs j d l (by (clear T D_read_sort D1 D2 D3 D4 n1 n2 n3 n4 n5 n6 D_Line_finish B HA S0 S1 S2 S3 hr hp hnd wok hpr q hlen h0 h1 h2 h3 hth d01 h1' d12 d02 h2' d23 d13 d03 h3' t3 t2 t1 t0 hth' sS hk hT hLs hs ha hx hmem hi far neR nS nT nR nP lS lT lR lP km hkd hsm hw hat e1 e2 e3 e4 hL ax bx lx hlt s1 L1 hT1 g1 g2 ax1 nb s2 L2 o2 hT2 g3 g4 ax2 rf L3 g5 z5 hd hl nd; omega)) hd hl).sx hL nd s1).sx L1 nd s2).up (neR j l hl) ax2 rf
    · have hL := hLs i a _ (Nat.le_refl _) ha hw
      obtain ⟨xs, ax, bx⟩ := hT.stas
      have lx := paired_len bx
      have hlt : (preT W i).length < W.stas.length := by
        have z := (List.getElem?_eq_some_iff.mp hat).1
        unfold preT
        rw [List.length_take]
        (clear T D_read_sort D1 D2 D3 D4 n1 n2 n3 n4 n5 n6 D_Line_finish B HA S0 S1 S2 S3 hr hp hnd wok hpr q hlen h0 h1 h2 h3 hth d01 h1' d12 d02 h2' d23 d13 d03 h3' t3 t2 t1 t0 hth' sS hk hT hLs hs ha hx hmem hi far neR nS nT nR nP lS lT lR lP km hkd hsm hw hat e1 e2 e3 e4 eS hL ax bx lx; omega)
      refine ⟨_, rfl, _, rfl, _, rfl, a, _, k, th, [l0, l1, l2, l3], l1, xs, 1, "station", 3, rfl, hL, rfl, rfl, by (clear T D_read_sort D1 D2 D3 D4 n1 n2 n3 n4 n5 n6 D_Line_finish B HA S0 S1 S2 S3 hr hp hnd wok hpr q hlen h0 h1 h2 h3 hth d01 h1' d12 d02 h2' d23 d13 d03 h3' t3 t2 t1 t0 hth' sS hT hLs hs ha hx hmem hi far neR nS nT nR nP lS lT lR lP km hsm hw hat e1 e2 e3 e4 eS hL ax bx lx hlt; omega), hT.list, rfl, SqL.of ax, rfl, by (clear T D_read_sort D1 D2 D3 D4 n1 n2 n3 n4 n5 n6 D_Line_finish B HA S0 S1 S2 S3 hr hp hnd wok hpr q hlen h0 h1 h2 h3 hth d01 h1' d12 d02 h2' d23 d13 d03 h3' t3 t2 t1 t0 hth' sS hk hT hLs hs ha hx hmem hi far neR nS nR nP lS lT lR lP km hkd hsm hw hat e1 e2 e3 e4 eS hL ax bx; omega), fun H2 s1 L1 => ?_⟩
      have hT1 := hT.sx hL s1
      refine ⟨_, rfl, aR, _, _, .ref fT, rfl, rfl, T.t_READERS _, atI_nat (j := 1) rfl, ?_⟩
      obtain ⟨dx0, n0, wl0, c0, g1, g2⟩ := hL.ex
      have ax1 : H2 l1 = some (.lst xs) := s1 _ _ (ne_of ax g1 (fun z => nomatch z)) ax
      refine ⟨_, rfl, _, rfl, th, _, _, .ref l1, rfl, rfl, hT1.list, atI_nat (j := 1) rfl, .inl ⟨rfl, _, SqL.of ax1⟩, fT, _, rfl, S1, _, rfl, _, rfl, _, rfl, ?_⟩
      refine ⟨a, W.horizon, th, s, _, rfl, L1, (hT.n1 T (by (clear T D_read_sort D1 D2 D3 D4 n1 n2 n3 n4 n5 n6 D_Line_finish B HA S0 S1 S2 S3 hr hp hnd wok hpr q hlen h0 h1 h2 h3 hth d01 h1' d12 d02 h2' d23 d13 d03 h3' t3 t2 t1 t0 hth' sS hk hT hLs hs ha hx hmem hi far neR nS nR nP lS lT lR lP km hkd hsm hw hat e1 e2 e3 e4 eS hL ax bx s1 L1 hT1 g1 g2 ax1; omega))).sameX hL s1, (fresh_name (f := (·.name)) wok.dStas hat), wok.stas s hsm, fun b H3 nb s2 L2 o2 => ?_⟩
      have hT2 := hT1.sx L1 s2
      obtain ⟨dx1, n1', wl1, c1, g3, g4⟩ := L1.ex
      have ax2 : H3 l1 = some (.lst xs) := s2 _ _ (ne_of ax1 g3 (fun z => nomatch z)) ax1
      refine ⟨l1, xs, .ref b, rfl, rfl, ax2, small1000 (by (clear T D_read_sort D1 D2 D3 D4 n1 n2 n3 n4 n5 n6 D_Line_finish B HA S0 S1 S2 S3 hr hp hnd wok hpr q hlen h0 h1 h2 h3 hth d01 h1' d12 d02 h2' d23 d13 d03 h3' t3 t2 t1 t0 hth' sS hk hT hLs hs ha hx hmem hi far neR nS nR nP lS lT lR lP km hkd hsm hw hat e1 e2 e3 e4 eS hL ax bx s1 L1 hT1 g1 g2 ax1 nb s2 L2 o2 hT2 g3 g4 ax2; omega)), ?_⟩
      have rf := refs_sta bx
      have L3 := L2.up (o := .lst (xs ++ [.ref b])) (neR i _ hw) ax2 rf
      obtain ⟨dx2, fs2, g5, z5⟩ := LnAt.no L3 (m := "finish") (by decide +kernel) (by decide +kernel) (by decide +kernel) (by decide +kernel)
      refine ⟨_, rfl, a, _, _, rfl, g5, z5, a, _, rfl, L3, ?_⟩
      refine ⟨(1 : Int), some (.ref a), some (.ref fT), rfl, by (clear T D_read_sort D1 D2 D3 D4 n1 n2 n3 n4 n5 n6 D_Line_finish B HA S0 S1 S2 S3 hr hp hnd wok hpr q hlen h0 h1 h2 h3 hth d01 h1' d12 d02 h2' d23 d13 d03 h3' t3 t2 t1 t0 hth' sS hk hT hLs hs ha hx hmem hi far neR nS nT nR nP lS lT lR lP hsm hw hat e1 e2 e3 e4 eS hL ax bx lx hlt s1 L1 hT1 g1 g2 ax1 nb s2 L2 o2 hT2 g3 g4 ax2 rf L3 g5 z5; omega), ?_, fun j d l hj hd hl => ?_, SameA.new h1' ((hs.trans (SameA.ofX s1 hmem)).trans (SameA.ofX s2 hmem))⟩
      · rw [e1, e2, e3, e4]
        exact hT2.push1 ax2 o2
      · have nd := far j d hj hd
        exact (((hLs j d l (by (clear T D_read_sort D1 D2 D3 D4 n1 n2 n3 n4 n5 n6 D_Line_finish B HA S0 S1 S2 S3 hr hp hnd wok hpr q hlen h0 h1 h2 h3 hth d01 h1' d12 d02 h2' d23 d13 d03 h3' t3 t2 t1 t0 hth' sS hk hT hLs hs ha hx hmem hi far neR nS nT nR nP lS lT lR lP km hkd hsm hw hat e1 e2 e3 e4 eS hL ax bx lx hlt s1 L1 hT1 g1 g2 ax1 nb s2 L2 o2 hT2 g3 g4 ax2 rf L3 g5 z5 hd hl nd; omega)) hd hl).sx hL nd s1).sx L1 nd s2).up (neR j l hl) ax2 rf
    · have hL := hLs i a _ (Nat.le_refl _) ha hw
      obtain ⟨xs, ax, bx⟩ := hT.recs
      have lx := paired_len bx
      have hlt : (preR W i).length < W.recs.length := by
        have z := (List.getElem?_eq_some_iff.mp hat).1
        unfold preR
        rw [List.length_take]
        (clear T D_read_sort D1 D2 D3 D4 n1 n2 n3 n4 n5 n6 D_Line_finish B HA S0 S1 S2 S3 hr hp hnd wok hpr q hlen h0 h1 h2 h3 hth d01 h1' d12 d02 h2' d23 d13 d03 h3' t3 t2 t1 t0 hth' sS hk hT hLs hs ha hx hmem hi far neR nS nT nR nP lS lT lR lP km hkd hsm hw hat e1 e2 e3 e4 eS eT hL ax bx lx; omega)
      refine ⟨_, rfl, _, rfl, _, rfl, a, _, k, th, [l0, l1, l2, l3], l2, xs, 2, "recording", 10, rfl, hL, rfl, rfl, by (clear T D_read_sort D1 D2 D3 D4 n1 n2 n3 n4 n5 n6 D_Line_finish B HA S0 S1 S2 S3 hr hp hnd wok hpr q hlen h0 h1 h2 h3 hth d01 h1' d12 d02 h2' d23 d13 d03 h3' t3 t2 t1 t0 hth' sS hT hLs hs ha hx hmem hi far neR nS nT nR nP lS lT lR lP km hsm hw hat e1 e2 e3 e4 eS eT hL ax bx lx hlt; omega), hT.list, rfl, SqL.of ax, rfl, by (clear T D_read_sort D1 D2 D3 D4 n1 n2 n3 n4 n5 n6 D_Line_finish B HA S0 S1 S2 S3 hr hp hnd wok hpr q hlen h0 h1 h2 h3 hth d01 h1' d12 d02 h2' d23 d13 d03 h3' t3 t2 t1 t0 hth' sS hk hT hLs hs ha hx hmem hi far neR nS nT nP lS lT lR lP km hkd hsm hw hat e1 e2 e3 e4 eS eT hL ax bx; omega), fun H2 s1 L1 => ?_⟩
      have hT1 := hT.sx hL s1
      refine ⟨_, rfl, aR, _, _, .ref fR, rfl, rfl, T.t_READERS _, atI_nat (j := 2) rfl, ?_⟩
      obtain ⟨dx0, n0, wl0, c0, g1, g2⟩ := hL.ex
      have ax1 : H2 l2 = some (.lst xs) := s1 _ _ (ne_of ax g1 (fun z => nomatch z)) ax
      refine ⟨_, rfl, _, rfl, th, _, _, .ref l2, rfl, rfl, hT1.list, atI_nat (j := 2) rfl, .inl ⟨rfl, _, SqL.of ax1⟩, fR, _, rfl, S2, _, rfl, _, rfl, _, rfl, ?_⟩
      refine ⟨a, th, W, s, _, rfl, L1, (hT.n2 T (by (clear T D_read_sort D1 D2 D3 D4 n1 n2 n3 n4 n5 n6 D_Line_finish B HA S0 S1 S2 S3 hr hp hnd wok hpr q hlen h0 h1 h2 h3 hth d01 h1' d12 d02 h2' d23 d13 d03 h3' t3 t2 t1 t0 hth' sS hk hT hLs hs ha hx hmem hi far neR nS nT nP lS lT lR lP km hkd hsm hw hat e1 e2 e3 e4 eS eT hL ax bx s1 L1 hT1 g1 g2 ax1; omega))).sameX hL s1, (by rw [← eS]; exact (hT.n0 T (by (clear T D_read_sort D1 D2 D3 D4 n1 n2 n3 n4 n5 n6 D_Line_finish B HA S0 S1 S2 S3 hr hp hnd wok hpr q hlen h0 h1 h2 h3 hth d01 h1' d12 d02 h2' d23 d13 d03 h3' t3 t2 t1 t0 hth' sS hk hT hLs hs ha hx hmem hi far neR nT nR nP lT lR lP km hkd hsm hw hat e1 e2 e3 e4 eS eT hL ax bx lx hlt s1 L1 hT1 g1 g2 ax1; omega))).sameX hL s1), (fresh_name (f := (·.name)) wok.dRecs hat), wok, wok.recs s hsm, fun b H3 nb s2 L2 o2 => ?_⟩
      have hT2 := hT1.sx L1 s2
      obtain ⟨dx1, n1', wl1, c1, g3, g4⟩ := L1.ex
      have ax2 : H3 l2 = some (.lst xs) := s2 _ _ (ne_of ax1 g3 (fun z => nomatch z)) ax1
      refine ⟨l2, xs, .ref b, rfl, rfl, ax2, small1000 (by (clear T D_read_sort D1 D2 D3 D4 n1 n2 n3 n4 n5 n6 D_Line_finish B HA S0 S1 S2 S3 hr hp hnd wok hpr q hlen h0 h1 h2 h3 hth d01 h1' d12 d02 h2' d23 d13 d03 h3' t3 t2 t1 t0 hth' sS hk hT hLs hs ha hx hmem hi far neR nS nT nP lS lT lR lP km hkd hsm hw hat e1 e2 e3 e4 eS eT hL ax bx s1 L1 hT1 g1 g2 ax1 nb s2 L2 o2 hT2 g3 g4 ax2; omega)), ?_⟩
      have rf := refs_rec bx
      have L3 := L2.up (o := .lst (xs ++ [.ref b])) (neR i _ hw) ax2 rf
      obtain ⟨dx2, fs2, g5, z5⟩ := LnAt.no L3 (m := "finish") (by decide +kernel) (by decide +kernel) (by decide +kernel) (by decide +kernel)
      refine ⟨_, rfl, a, _, _, rfl, g5, z5, a, _, rfl, L3, ?_⟩
      refine ⟨(2 : Int), some (.ref a), some (.ref fR), rfl, by (clear T D_read_sort D1 D2 D3 D4 n1 n2 n3 n4 n5 n6 D_Line_finish B HA S0 S1 S2 S3 hr hp hnd wok hpr q hlen h0 h1 h2 h3 hth d01 h1' d12 d02 h2' d23 d13 d03 h3' t3 t2 t1 t0 hth' sS hk hT hLs hs ha hx hmem hi far neR nS nT nR nP lS lT lR lP hsm hw hat e1 e2 e3 e4 eS eT hL ax bx lx hlt s1 L1 hT1 g1 g2 ax1 nb s2 L2 o2 hT2 g3 g4 ax2 rf L3 g5 z5; omega), ?_, fun j d l hj hd hl => ?_, SameA.new h2' ((hs.trans (SameA.ofX s1 hmem)).trans (SameA.ofX s2 hmem))⟩
      · rw [e1, e2, e3, e4]
        exact hT2.push2 ax2 o2
      · have nd := far j d hj hd
        exact (((hLs j d l (by (clear T D_read_sort D1 D2 D3 D4 n1 n2 n3 n4 n5 n6 D_Line_finish B HA S0 S1 S2 S3 hr hp hnd wok hpr q hlen h0 h1 h2 h3 hth d01 h1' d12 d02 h2' d23 d13 d03 h3' t3 t2 t1 t0 hth' sS hk hT hLs hs ha hx hmem hi far neR nS nT nR nP lS lT lR lP km hkd hsm hw hat e1 e2 e3 e4 eS eT hL ax bx lx hlt s1 L1 hT1 g1 g2 ax1 nb s2 L2 o2 hT2 g3 g4 ax2 rf L3 g5 z5 hd hl nd; omega)) hd hl).sx hL nd s1).sx L1 nd s2).up (neR j l hl) ax2 rf
    · have hL := hLs i a _ (Nat.le_refl _) ha hw
      obtain ⟨xs, ax, bx⟩ := hT.pass
      have lx := paired_len bx
      have hlt : (preP W i).length < W.pass.length := by
        have z := (List.getElem?_eq_some_iff.mp hat).1
        unfold preP
        rw [List.length_take]
        (clear T D_read_sort D1 D2 D3 D4 n1 n2 n3 n4 n5 n6 D_Line_finish B HA S0 S1 S2 S3 hr hp hnd wok hpr q hlen h0 h1 h2 h3 hth d01 h1' d12 d02 h2' d23 d13 d03 h3' t3 t2 t1 t0 hth' sS hk hT hLs hs ha hx hmem hi far neR nS nT nR nP lS lT lR lP km hkd hsm hw hat e1 e2 e3 e4 eS eT hL ax bx lx; omega)
      refine ⟨_, rfl, _, rfl, _, rfl, a, _, k, th, [l0, l1, l2, l3], l3, xs, 3, "pass", 10, rfl, hL, rfl, rfl, by (clear T D_read_sort D1 D2 D3 D4 n1 n2 n3 n4 n5 n6 D_Line_finish B HA S0 S1 S2 S3 hr hp hnd wok hpr q hlen h0 h1 h2 h3 hth d01 h1' d12 d02 h2' d23 d13 d03 h3' t3 t2 t1 t0 hth' sS hT hLs hs ha hx hmem hi far neR nS nT nR nP lS lT lR lP km hsm hw hat e1 e2 e3 e4 eS eT hL ax bx lx hlt; omega), hT.list, rfl, SqL.of ax, rfl, by (clear T D_read_sort D1 D2 D3 D4 n1 n2 n3 n4 n5 n6 D_Line_finish B HA S0 S1 S2 S3 hr hp hnd wok hpr q hlen h0 h1 h2 h3 hth d01 h1' d12 d02 h2' d23 d13 d03 h3' t3 t2 t1 t0 hth' sS hk hT hLs hs ha hx hmem hi far neR nS nT nR lS lT lR lP km hkd hsm hw hat e1 e2 e3 e4 eS eT hL ax bx; omega), fun H2 s1 L1 => ?_⟩
      have hT1 := hT.sx hL s1
      refine ⟨_, rfl, aR, _, _, .ref fP, rfl, rfl, T.t_READERS _, atI_nat (j := 3) rfl, ?_⟩
      obtain ⟨dx0, n0, wl0, c0, g1, g2⟩ := hL.ex
      have ax1 : H2 l3 = some (.lst xs) := s1 _ _ (ne_of ax g1 (fun z => nomatch z)) ax
      refine ⟨_, rfl, _, rfl, th, _, _, .ref l3, rfl, rfl, hT1.list, atI_nat (j := 3) rfl, .inl ⟨rfl, _, SqL.of ax1⟩, fP, _, rfl, S3, _, rfl, _, rfl, _, rfl, ?_⟩
      refine ⟨a, th, W, s, _, rfl, L1, (hT.n3 T (by (clear T D_read_sort D1 D2 D3 D4 n1 n2 n3 n4 n5 n6 D_Line_finish B HA S0 S1 S2 S3 hr hp hnd wok hpr q hlen h0 h1 h2 h3 hth d01 h1' d12 d02 h2' d23 d13 d03 h3' t3 t2 t1 t0 hth' sS hk hT hLs hs ha hx hmem hi far neR nS nT nR lS lT lR lP km hkd hsm hw hat e1 e2 e3 e4 eS eT hL ax bx s1 L1 hT1 g1 g2 ax1; omega))).sameX hL s1, (by rw [← eS]; exact (hT.n0 T (by (clear T D_read_sort D1 D2 D3 D4 n1 n2 n3 n4 n5 n6 D_Line_finish B HA S0 S1 S2 S3 hr hp hnd wok hpr q hlen h0 h1 h2 h3 hth d01 h1' d12 d02 h2' d23 d13 d03 h3' t3 t2 t1 t0 hth' sS hk hT hLs hs ha hx hmem hi far neR nT nR nP lT lR lP km hkd hsm hw hat e1 e2 e3 e4 eS eT hL ax bx lx hlt s1 L1 hT1 g1 g2 ax1; omega))).sameX hL s1), (by rw [← eT]; exact (hT.n1 T (by (clear T D_read_sort D1 D2 D3 D4 n1 n2 n3 n4 n5 n6 D_Line_finish B HA S0 S1 S2 S3 hr hp hnd wok hpr q hlen h0 h1 h2 h3 hth d01 h1' d12 d02 h2' d23 d13 d03 h3' t3 t2 t1 t0 hth' sS hk hT hLs hs ha hx hmem hi far neR nS nR nP lS lR lP km hkd hsm hw hat e1 e2 e3 e4 eS eT hL ax bx lx hlt s1 L1 hT1 g1 g2 ax1; omega))).sameX hL s1), (fresh_name (f := (·.name)) wok.dPass hat), wok, wok.pass s hsm, fun b H3 nb s2 L2 o2 => ?_⟩
      have hT2 := hT1.sx L1 s2
      obtain ⟨dx1, n1', wl1, c1, g3, g4⟩ := L1.ex
      have ax2 : H3 l3 = some (.lst xs) := s2 _ _ (ne_of ax1 g3 (fun z => nomatch z)) ax1
      refine ⟨l3, xs, .ref b, rfl, rfl, ax2, small1000 (by (clear T D_read_sort D1 D2 D3 D4 n1 n2 n3 n4 n5 n6 D_Line_finish B HA S0 S1 S2 S3 hr hp hnd wok hpr q hlen h0 h1 h2 h3 hth d01 h1' d12 d02 h2' d23 d13 d03 h3' t3 t2 t1 t0 hth' sS hk hT hLs hs ha hx hmem hi far neR nS nT nR lS lT lR lP km hkd hsm hw hat e1 e2 e3 e4 eS eT hL ax bx s1 L1 hT1 g1 g2 ax1 nb s2 L2 o2 hT2 g3 g4 ax2; omega)), ?_⟩
      have rf := refs_pas bx
      have L3 := L2.up (o := .lst (xs ++ [.ref b])) (neR i _ hw) ax2 rf
      obtain ⟨dx2, fs2, g5, z5⟩ := LnAt.no L3 (m := "finish") (by decide +kernel) (by decide +kernel) (by decide +kernel) (by decide +kernel)
      refine ⟨_, rfl, a, _, _, rfl, g5, z5, a, _, rfl, L3, ?_⟩
      refine ⟨(3 : Int), some (.ref a), some (.ref fP), rfl, by (clear T D_read_sort D1 D2 D3 D4 n1 n2 n3 n4 n5 n6 D_Line_finish B HA S0 S1 S2 S3 hr hp hnd wok hpr q hlen h0 h1 h2 h3 hth d01 h1' d12 d02 h2' d23 d13 d03 h3' t3 t2 t1 t0 hth' sS hk hT hLs hs ha hx hmem hi far neR nS nT nR nP lS lT lR lP hsm hw hat e1 e2 e3 e4 eS eT hL ax bx lx hlt s1 L1 hT1 g1 g2 ax1 nb s2 L2 o2 hT2 g3 g4 ax2 rf L3 g5 z5; omega), ?_, fun j d l hj hd hl => ?_, SameA.new h3' ((hs.trans (SameA.ofX s1 hmem)).trans (SameA.ofX s2 hmem))⟩
      · rw [e1, e2, e3, e4]
        exact hT2.push3 ax2 o2
      · have nd := far j d hj hd
        exact (((hLs j d l (by (clear T D_read_sort D1 D2 D3 D4 n1 n2 n3 n4 n5 n6 D_Line_finish B HA S0 S1 S2 S3 hr hp hnd wok hpr q hlen h0 h1 h2 h3 hth d01 h1' d12 d02 h2' d23 d13 d03 h3' t3 t2 t1 t0 hth' sS hk hT hLs hs ha hx hmem hi far neR nS nT nR nP lS lT lR lP km hkd hsm hw hat e1 e2 e3 e4 eS eT hL ax bx lx hlt s1 L1 hT1 g1 g2 ax1 nb s2 L2 o2 hT2 g3 g4 ax2 rf L3 g5 z5 hd hl nd; omega)) hd hl).sx hL nd s1).sx L1 nd s2).up (neR j l hl) ax2 rf
  · obtain ⟨k, y4, y5, rfl, hk, hT, hLs, hs⟩ := hI
    rw [List.length_map, hlen] at hT
    have f1 : preS W (restW W).length = W.sats := List.take_of_length_le (by rw [restW_len]; (clear T D_read_sort D1 D2 D3 D4 n1 n2 n3 n4 n5 n6 D_Line_finish B HA S0 S1 S2 S3 hr hp hnd wok hpr q hlen h0 h1 h2 h3 hth d01 h1' d12 d02 h2' d23 d13 d03 h3' t3 t2 t1 t0 hth' sS hk hT hLs hs; omega))
    have f2 : preT W (restW W).length = W.stas := List.take_of_length_le (by rw [restW_len]; (clear T D_read_sort D1 D2 D3 D4 n1 n2 n3 n4 n5 n6 D_Line_finish B HA S0 S1 S2 S3 hr hp hnd wok hpr q hlen h0 h1 h2 h3 hth d01 h1' d12 d02 h2' d23 d13 d03 h3' t3 t2 t1 t0 hth' sS hk hT hLs hs f1; omega))
    have f3 : preR W (restW W).length = W.recs := List.take_of_length_le (by rw [restW_len]; (clear T D_read_sort D1 D2 D3 D4 n1 n2 n3 n4 n5 n6 D_Line_finish B HA S0 S1 S2 S3 hr hp hnd wok hpr q hlen h0 h1 h2 h3 hth d01 h1' d12 d02 h2' d23 d13 d03 h3' t3 t2 t1 t0 hth' sS hk hT hLs hs f1 f2; omega))
    have f4 : preP W (restW W).length = W.pass := List.take_of_length_le (by rw [restW_len]; (clear T D_read_sort D1 D2 D3 D4 n1 n2 n3 n4 n5 n6 D_Line_finish B HA S0 S1 S2 S3 hr hp hnd wok hpr q hlen h0 h1 h2 h3 hth d01 h1' d12 d02 h2' d23 d13 d03 h3' t3 t2 t1 t0 hth' sS hk hT hLs hs f1 f2 f3; omega))
    rw [f1, f2, f3, f4] at hT
    exact ⟨_, rfl, q th l0 l1 l2 l3 H1 hs hT⟩
end
end DP
namespace DP
open PySem PySem.Spec PyProof.Rows L2
/-- a staticmethod of a class -/
structure SMet (K : PySem.W.Frag) (C : Addr) (m : Str) (g : Addr) : Prop where
  ex : ∃ p rest, PySem.W.findCls K (.ref C) (.type "type") m = some (.get (.builtin "staticmethod.__get__") (.ref p) .none (.ref C)) ∧ PySem.W.recIn K p "staticmethod" = some (.ref g :: rest)
structure SAt (K : PySem.W.Frag) (C : Addr) (m qual : Str) (st : Stmt) (ps : List Str) : Prop where
  ex : ∃ f fd, Fun K m qual st f fd ∧ SMet K C m f ∧ Binds K fd ps []
structure SDef (P : Program) (w : World) (K : PySem.W.Frag) (mg : Str → Option Value) (base : Heap) (CX : CXT) (k : Nat) (C : Addr) (m : Str) (ps : List Str) (sp : Sp) : Prop where
  ex : ∃ f fd, FnOk P w K mg base CX k f fd ps sp ∧ SMet K C m f ∧ PySem.W.keepIn K (.ref f) = true ∧ Binds K fd ps []
def tSMeth (C : Addr) (sp : Sp) (E : XK) (ta : TE) (t : TA) : TE := fun σ H Q => ta σ H fun x H1 => x = .ref C ∧ t σ H1 fun vs H2 => sp vs H2 Q E
theorem pe_smeth {X : Cx} {CX : CXT} {k : Nat} {C : Addr} {m : Str} {ps : List Str} {sp : Sp} {E : XK} {o e : Expr} {es : List Expr} {ta : TE} {t : TA} {pos apos : Pos} {pl : Sem Bool}
    (D : SDef X.prog X.w X.K X.mg X.base CX k C m ps sp) (rd : ClX.CRead X.K C (.type "type")) (hr : Room k X.A) (hx : Passes CX X E) (he : PE X o ta) (ha : PA X (e :: es) t)
    (hst : starEach (e :: es) X.env = (false, eval e X.env) :: starEach es X.env := by rfl) (hpl : (backTo pos (starEach es X.env)).any (·.1) = false := by rfl)
    (ht : eval (.Call (.Attribute o m apos) (e :: es) [] pos) X.env = (do
      let ov ← eval o X.env
      standAt apos.atName
      let (f, first) ← holding [ov] (getMethod ov m pl)
      callWith pos f first (backTo pos (starEach (e :: es) X.env)) (backToKw pos (keywordEach [] X.env))) := by rfl) :
    PE X (.Call (.Attribute o m apos) (e :: es) [] pos) (tSMeth C sp E ta t) := by
  obtain ⟨f, fd, G, ⟨p, rest, e1, e2⟩, kp, b⟩ := D.ex
  refine ⟨fun pins s σ H Q I h => ?_⟩
  refine PySem.W.methodCall_KW (pl := pl) (thn (he.run pins s σ H _ I h) fun u s1 ⟨x, H1, I1, rx, ex, q⟩ => ?_) ht
  subst ex
  obtain rfl : u = Value.ref C := rx
  have I2 := I1.tok (s1.toks + 1)
  refine PySem.W.method_cls I1.kIn rd.ga (PySem.W.cls_bind I1.kIn rd.rd e1 (wpAny_call (PySem.W.sm_get (s := { s1 with toks := s1.toks + 1 }) I2.kIn e2 (PySem.W.handed_on (handed_of (v := .ref f) rfl) ?_))))
  refine PySem.W.callWith_K (h₀ := X.base) I.ok.mod.kin kp (thn (ha.run pos pins _ σ H1 _ I2 q) fun us s3 ⟨vs, H2, I3, r, q2⟩ => ⟨I3.kIn, ?_⟩) hst hpl
  rw [← List.append_nil vs] at q2
  exact run_fn (dvs := []) (ds := []) G hr b .nil hx I3 r q2
section
variable {P : Program} {w : World} {K : PySem.W.Frag} {mg : Str → Option Value} {base : Heap} {C : Addr} {m qual : Str} {st : Stmt} {ps N : List Str} {k : Nat} {sp : Sp}
theorem SAt.ok (F : SAt K C m qual st ps) (S : FnScope N ps (defScope st)) (len : ∀ vs H Q E, sp vs H Q E → vs.length = ps.length)
    (hbody : ∀ (f : Addr) (cdv : Value) (A : Around) (outer : List Env) (s : Shared) (H : Hp) (vs : List V) (Q : VK) (E : XK), Room k (A.deeper (envOfC qual (defScope st) s.heap.objs.size f cdv)) → sp vs H Q E →
      ∃ t, PSs (cxOf CX0 P w K mg base N qual (defScope st) f cdv A outer s H E).nox (defBody st) t ∧ t { nx := fun _ H' => Q .non H', rt := Q } (start N vs) H) : SDef P w K mg base CX0 (k + 1) C m ps sp := by
  obtain ⟨f, fd, G, M, b⟩ := F.ex
  exact ⟨f, fd, G.ok S len (fun cdv A outer s H vs Q E hr h => hbody f cdv A outer s H vs Q E hr h), M, G.kp, b⟩
end
def worF (u : Str) (h : Int) (t0 t1 t2 t3 : Addr) : List (Str × V) := [("text", .str u), ("horizon", .int h), ("satellites", .ref t0), ("stations", .ref t1), ("recordings", .ref t2), ("passes", .ref t3)]
structure WorldAt (K : PySem.W.Frag) (CS CT CR CP CW : Addr) (H : Hp) (a : Addr) (W : WorldD) : Prop where
  ex : ∃ dx t0 t1 t2 t3 x0 x1 x2 x3, H a = some (.ins CW dx (worF (textW W) W.horizon t0 t1 t2 t3)) ∧ SqT K H t0 x0 ∧ Paired (SatAt K CS H) x0 W.sats ∧ SqT K H t1 x1 ∧ Paired (StaAt CT H) x1 W.stas ∧
    SqT K H t2 x2 ∧ Paired (RecAt CR H) x2 W.recs ∧ SqT K H t3 x3 ∧ Paired (PasAt K CP H) x3 W.pass
theorem WorldAt.same {K : PySem.W.Frag} {CS CT CR CP CW : Addr} {H H' : Hp} {a : Addr} {W : WorldD} (h : WorldAt K CS CT CR CP CW H a W) (z : Same H H') : WorldAt K CS CT CR CP CW H' a W := by
  obtain ⟨dx, t0, t1, t2, t3, x0, x1, x2, x3, g, a0, b0, a1, b1, a2, b2, a3, b3⟩ := h.ex
  exact ⟨dx, t0, t1, t2, t3, x0, x1, x2, x3, z _ _ g, Same.tup z a0, Paired.mapP b0 fun _ _ y => y.same z, Same.tup z a1, Paired.mapP b1 fun _ _ y => y.same z, Same.tup z a2, Paired.mapP b2 fun _ _ y => y.same z, Same.tup z a3, Paired.mapP b3 fun _ _ y => y.same z⟩
section
variable {K : PySem.W.Frag} {CS CT CR CP C : Addr} {H H' : Hp} {x dx th l0 l1 l2 l3 : Addr} {y : V} {S : List SatD} {T : List StaD} {R : List RecD} {P : List PasD}
theorem ne_bare {b D dy : Addr} {fs : List (Str × V)} (hx : H x = some (.ins C dx [])) (hb : H b = some (.ins D dy fs)) (n : fs.length ≠ 0) : b ≠ x := ins_ne hb hx n
/-- the things stay where a new object is filled -/
theorem Thg.bare (h : Thg K CS CT CR CP H th l0 l1 l2 l3 S T R P) (hx : H x = some (.ins C dx [])) (z : SameX x H H') : Thg K CS CT CR CP H' th l0 l1 l2 l3 S T R P := by
  obtain ⟨x0, a0, b0⟩ := h.sats
  obtain ⟨x1, a1, b1⟩ := h.stas
  obtain ⟨x2, a2, b2⟩ := h.recs
  obtain ⟨x3, a3, b3⟩ := h.pass
  refine ⟨z _ _ (ne_of h.tup hx (fun z => nomatch z)) h.tup, h.d01, h.d02, h.d03, h.d12, h.d13, h.d23, ⟨x0, z _ _ (ne_of a0 hx (fun z => nomatch z)) a0, Paired.mapP b0 fun _ _ q => ?_⟩, ⟨x1, z _ _ (ne_of a1 hx (fun z => nomatch z)) a1, Paired.mapP b1 fun _ _ q => ?_⟩,
    ⟨x2, z _ _ (ne_of a2 hx (fun z => nomatch z)) a2, Paired.mapP b2 fun _ _ q => ?_⟩, ⟨x3, z _ _ (ne_of a3 hx (fun z => nomatch z)) a3, Paired.mapP b3 fun _ _ q => ?_⟩⟩
  · obtain ⟨b, dx, t, ls, h1, h2, h3, h4⟩ := q
    exact ⟨b, dx, t, ls, h1, z _ _ (ne_bare hx h2 (by show 8 ≠ 0; decide)) h2, z.sqT hx h3, z.spans hx h4⟩
  · obtain ⟨b, dx, h1, h2⟩ := q
    exact ⟨b, dx, h1, z _ _ (ne_bare hx h2 (by show 3 ≠ 0; decide)) h2⟩
  · obtain ⟨b, dx, h1, h2⟩ := q
    exact ⟨b, dx, h1, z _ _ (ne_bare hx h2 (by show 10 ≠ 0; decide)) h2⟩
  · obtain ⟨b, dx, t, h1, h2, h3⟩ := q
    exact ⟨b, dx, t, h1, z _ _ (ne_bare hx h2 (by show 7 ≠ 0; decide)) h2, z.sqT hx h3⟩
end
section
variable {P : Program} {w : World} {K : PySem.W.Frag} {mg : Str → Option Value} {base : Heap} {CL CS CT CR CP CW aS aR fS fT fR fP : Addr}
def spWInit (K : PySem.W.Frag) (CS CT CR CP CW : Addr) : Sp := fun vs H Q _ => ∃ (x dx : Addr) (W : WorldD) (th l0 l1 l2 l3 : Addr), vs = [.ref x, .str (textW W), .int W.horizon, .ref th] ∧ H x = some (.ins CW dx []) ∧
  Thg K CS CT CR CP H th l0 l1 l2 l3 W.sats W.stas W.recs W.pass ∧ ∀ H', SameX x H H' → WorldAt K CS CT CR CP CW H' x W → Q .non H'
theorem dI_World (T : TxtW K mg CL CS CT CR CP CW aS aR fS fT fR fP) (A : MAt K CW "__init__" "World.__init__" s_World___init__ ["self", "text", "horizon", "things"]) : MDef P w K mg base CX0 1 CW "__init__" ["self", "text", "horizon", "things"] [] (spWInit K CS CT CR CP CW) := by
  have B := T.L.B
  refine A.ok sc_World___init__ (fun vs H Q E h => ?_) (fun f cdv A outer s H vs Q E hr h => ?_)
  · obtain ⟨x, dx, W, th, l0, l1, l2, l3, rfl, _⟩ := h
    rfl
  obtain ⟨x, dx, W, th, l0, l1, l2, l3, rfl, hx, hT, q⟩ := h
  refine ⟨_, pss_cons (ps_asg (pv 3) (pg_tup (by rfl) (pgs_cons (pg_name (i := 4) sc_World___init__.nd rfl (Or.inl rfl)) (pgs_cons (pg_name (i := 5) sc_World___init__.nd rfl (Or.inl rfl)) (pgs_cons (pg_name (i := 6) sc_World___init__.nd rfl (Or.inl rfl)) (pgs_cons (pg_name (i := 7) sc_World___init__.nd rfl (Or.inl rfl)) (pgs_nil)))))))
  (pss_cons (ps_fld (pv 0) (pv 1) rfl)
  (pss_cons (ps_fld (pv 0) (pv 2) rfl)
  (pss_cons (ps_fld (pv 0) (pe_callTy (call_tuple_of) (by rfl) B.tuple (by decide +kernel) (pa_cons (pv 4) pa_nil)) rfl)
  (pss_cons (ps_fld (pv 0) (pe_callTy (call_tuple_of) (by rfl) B.tuple (by decide +kernel) (pa_cons (pv 5) pa_nil)) rfl)
  (pss_cons (ps_fld (pv 0) (pe_callTy (call_tuple_of) (by rfl) B.tuple (by decide +kernel) (pa_cons (pv 6) pa_nil)) rfl)
  (pss_one (ps_fld (pv 0) (pe_callTy (call_tuple_of) (by rfl) B.tuple (by decide +kernel) (pa_cons (pv 7) pa_nil)) rfl)))))))
    , ?_⟩
  have cl := T.c_World.cl
  refine ⟨_, rfl, th, _, rfl, SqT.of hT.tup, rfl, _, _, rfl, _, _, rfl, _, _, rfl, _, _, rfl, rfl, ?_⟩
  refine ⟨_, rfl, _, rfl, x, CW, dx, _, rfl, hx, cl, T.n_World_text, (by show 0 < 1000; decide), ?_⟩
  rw [put_nil]
  refine ⟨_, rfl, _, rfl, x, CW, dx, _, rfl, upd_same, cl, T.n_World_horizon, (by show 1 < 1000; decide), ?_⟩
  rw [upd_upd, put_miss (by decide +kernel), put_nil]
  have z1 : SameX x H (upd H x (.ins CW dx [("text", .str (textW W)), ("horizon", .int W.horizon)])) := SameX.upd
  obtain ⟨x0, a0, b0⟩ := (hT.bare hx z1).sats
  refine ⟨_, rfl, l0, x0, rfl, .inl ⟨SqL.of a0, fun t0 ht0 => ?_⟩⟩
  have e0 : x ≠ t0 := fun z => by rw [← z, upd_same] at ht0; cases ht0
  refine ⟨_, rfl, x, CW, dx, _, rfl, (upd_ne e0).trans upd_same, cl, T.n_World_satellites, (by show 2 < 1000; decide), ?_⟩
  rw [put_miss (by decide +kernel), put_miss (by decide +kernel), put_nil]
  have z2 : SameX x H (upd (upd (upd H x (.ins CW dx [("text", .str (textW W)), ("horizon", .int W.horizon)])) t0 (.tup x0)) x (.ins CW dx [("text", .str (textW W)), ("horizon", .int W.horizon), ("satellites", .ref t0)])) := (z1.trans (SameX.of (same_new ht0 _))).trans SameX.upd
  generalize hH2 : (upd (upd (upd H x (.ins CW dx [("text", .str (textW W)), ("horizon", .int W.horizon)])) t0 (.tup x0)) x (.ins CW dx [("text", .str (textW W)), ("horizon", .int W.horizon), ("satellites", .ref t0)])) = H2 at z2
  have g2 : H2 x = some (.ins CW dx [("text", .str (textW W)), ("horizon", .int W.horizon), ("satellites", .ref t0)]) := by rw [← hH2, upd_same]
  have k0 : H2 t0 = some (.tup x0) := by rw [← hH2, upd_ne e0.symm, upd_same]
  obtain ⟨x1, a1, b1⟩ := (hT.bare hx z2).stas
  refine ⟨_, rfl, l1, x1, rfl, .inl ⟨SqL.of a1, fun t1 ht1 => ?_⟩⟩
  have e1 : x ≠ t1 := ne_of_none g2 ht1
  refine ⟨_, rfl, x, CW, dx, _, rfl, (upd_ne e1).trans g2, cl, T.n_World_stations, (by show 3 < 1000; decide), ?_⟩
  rw [put_miss (by decide +kernel), put_miss (by decide +kernel), put_miss (by decide +kernel), put_nil]
  have z3 : SameX x H2 (upd (upd H2 t1 (.tup x1)) x (.ins CW dx [("text", .str (textW W)), ("horizon", .int W.horizon), ("satellites", .ref t0), ("stations", .ref t1)])) := (SameX.of (same_new ht1 _)).trans SameX.upd
  generalize hH3 : (upd (upd H2 t1 (.tup x1)) x (.ins CW dx [("text", .str (textW W)), ("horizon", .int W.horizon), ("satellites", .ref t0), ("stations", .ref t1)])) = H3 at z3
  have g3 : H3 x = some (.ins CW dx [("text", .str (textW W)), ("horizon", .int W.horizon), ("satellites", .ref t0), ("stations", .ref t1)]) := by rw [← hH3, upd_same]
  have k1 : H3 t1 = some (.tup x1) := by rw [← hH3, upd_ne e1.symm, upd_same]
  obtain ⟨x2, a2, b2⟩ := (hT.bare hx (z2.trans z3)).recs
  refine ⟨_, rfl, l2, x2, rfl, .inl ⟨SqL.of a2, fun t2 ht2 => ?_⟩⟩
  have e2 : x ≠ t2 := ne_of_none g3 ht2
  refine ⟨_, rfl, x, CW, dx, _, rfl, (upd_ne e2).trans g3, cl, T.n_World_recordings, (by show 4 < 1000; decide), ?_⟩
  rw [put_miss (by decide +kernel), put_miss (by decide +kernel), put_miss (by decide +kernel), put_miss (by decide +kernel), put_nil]
  have z4 : SameX x H3 (upd (upd H3 t2 (.tup x2)) x (.ins CW dx [("text", .str (textW W)), ("horizon", .int W.horizon), ("satellites", .ref t0), ("stations", .ref t1), ("recordings", .ref t2)])) := (SameX.of (same_new ht2 _)).trans SameX.upd
  generalize hH4 : (upd (upd H3 t2 (.tup x2)) x (.ins CW dx [("text", .str (textW W)), ("horizon", .int W.horizon), ("satellites", .ref t0), ("stations", .ref t1), ("recordings", .ref t2)])) = H4 at z4
  have g4 : H4 x = some (.ins CW dx [("text", .str (textW W)), ("horizon", .int W.horizon), ("satellites", .ref t0), ("stations", .ref t1), ("recordings", .ref t2)]) := by rw [← hH4, upd_same]
  have k2 : H4 t2 = some (.tup x2) := by rw [← hH4, upd_ne e2.symm, upd_same]
  obtain ⟨x3, a3, b3⟩ := (hT.bare hx ((z2.trans z3).trans z4)).pass
  refine ⟨_, rfl, l3, x3, rfl, .inl ⟨SqL.of a3, fun t3 ht3 => ?_⟩⟩
  have e3 : x ≠ t3 := ne_of_none g4 ht3
  refine ⟨_, rfl, x, CW, dx, _, rfl, (upd_ne e3).trans g4, cl, T.n_World_passes, (by show 5 < 1000; decide), ?_⟩
  rw [put_miss (by decide +kernel), put_miss (by decide +kernel), put_miss (by decide +kernel), put_miss (by decide +kernel), put_miss (by decide +kernel), put_nil]
  have z5 : SameX x H4 (upd (upd H4 t3 (.tup x3)) x (.ins CW dx (worF (textW W) W.horizon t0 t1 t2 t3))) := (SameX.of (same_new ht3 _)).trans SameX.upd
  have zz := (((z2.trans z3).trans z4).trans z5)
  have hTT := hT.bare hx zz
  have c0 : ∀ {y0 : List V}, Paired (SatAt K CS H) y0 W.sats → True := fun _ => True.intro
  obtain ⟨y0, q0, r0⟩ := hT.sats
  obtain ⟨y1, q1, r1⟩ := hT.stas
  obtain ⟨y2, q2, r2⟩ := hT.recs
  obtain ⟨y3, q3, r3⟩ := hT.pass
  obtain ⟨w0, u0, v0⟩ := hTT.sats
  obtain ⟨w1, u1, v1⟩ := hTT.stas
  obtain ⟨w2, u2, v2⟩ := hTT.recs
  obtain ⟨w3, u3, v3⟩ := hTT.pass
  have n0 : l0 ≠ x := ne_of q0 hx (fun z => nomatch z)
  have n1 : l1 ≠ x := ne_of q1 hx (fun z => nomatch z)
  have n2 : l2 ≠ x := ne_of q2 hx (fun z => nomatch z)
  have n3 : l3 ≠ x := ne_of q3 hx (fun z => nomatch z)
  have j0 : w0 = x0 := HO.lst.inj (Option.some.inj (u0.symm.trans ((((z2.trans z3).trans z4).trans z5) _ _ n0 q0 |>.trans (by rw [← (z1 _ _ n0 q0).symm.trans a0]))))
  have j1 : w1 = x1 := HO.lst.inj (Option.some.inj (u1.symm.trans ((((z2.trans z3).trans z4).trans z5) _ _ n1 q1 |>.trans (by rw [← (z2 _ _ n1 q1).symm.trans a1]))))
  have j2 : w2 = x2 := HO.lst.inj (Option.some.inj (u2.symm.trans ((((z2.trans z3).trans z4).trans z5) _ _ n2 q2 |>.trans (by rw [← ((z2.trans z3) _ _ n2 q2).symm.trans a2]))))
  have j3 : w3 = x3 := HO.lst.inj (Option.some.inj (u3.symm.trans ((((z2.trans z3).trans z4).trans z5) _ _ n3 q3 |>.trans (by rw [← (((z2.trans z3).trans z4) _ _ n3 q3).symm.trans a3]))))
  subst j0 j1 j2 j3
  exact q _ zz ⟨dx, t0, t1, t2, t3, w0, w1, w2, w3, upd_same, SqT.of (z5 _ _ e0.symm (z4 _ _ e0.symm (z3 _ _ e0.symm k0))), v0, SqT.of (z5 _ _ e1.symm (z4 _ _ e1.symm k1)), v1, SqT.of (z5 _ _ e2.symm k2), v2, SqT.of (by rw [upd_ne e3.symm, upd_same]), v3⟩
end
end DP
namespace DP
open PySem PySem.Spec PyProof.Rows L2
section
variable {P : Program} {w : World} {K : PySem.W.Frag} {mg : Str → Option Value} {base : Heap} {CL CS CT CR CP CW aS aR fS fT fR fP : Addr}
def spParse (K : PySem.W.Frag) (CS CT CR CP CW : Addr) : Sp := fun vs H Q _ => ∃ W : WorldD, vs = [.str (textW W)] ∧ WorldOk W ∧ ∀ a H', H a = none → Same H H' → WorldAt K CS CT CR CP CW H' a W → Q (.ref a) H'
theorem d_parse (T : TxtW K mg CL CS CT CR CP CW aS aR fS fT fR fP) (D_lines_of : DefOk P w K mg base CX0 3 "lines_of" ["text"] (spLines CL)) (D_Line_read_field : MDef P w K mg base CX0 4 CL "read_field" ["self", "word", "least", "most"] [] (spField CL))
    (D_Line_finish : MDef P w K mg base CX0 3 CL "finish" ["self"] [] (spFinish CL)) (D_read_things : DefOk P w K mg base CX0 6 "read_things" ["lines", "horizon"] (spThings K CL CS CT CR CP))
    (DI_World : MDef P w K mg base CX0 1 CW "__init__" ["self", "text", "horizon", "things"] [] (spWInit K CS CT CR CP CW)) (A : SAt K CW "parse" "World.parse" s_World_parse ["text"]) : SDef P w K mg base CX0 7 CW "parse" ["text"] (spParse K CS CT CR CP CW) := by
  have B := T.L.B
  refine A.ok sc_World_parse (fun vs H Q E h => ?_) (fun f cdv A outer s H vs Q E hr h => ?_)
  · obtain ⟨W, rfl, _⟩ := h
    rfl
  obtain ⟨W, rfl, wok, q⟩ := h
  refine ⟨_, pss_cons (ps_set (i := 1) sc_World_parse.nd rfl (Or.inl rfl) (pe_f D_lines_of (hr.mono (by omega)) pass0 (pa_cons (pv 0) pa_nil)))
  (pss_cons (ps_if (pt_cmpR op_eq (pe_callB (call_len_seq) (by rfl) B.len (by decide +kernel) (pa_cons (pv 1) pa_nil)) pe_int (nomark _))
      (pss_one (ps_never))
      (pss_nil))
  (pss_cons (ps_set (i := 2) sc_World_parse.nd rfl (Or.inl rfl) (pe_m D_Line_read_field T.c_Line.cl (hr.mono (by omega)) pass0 (pe_ix ix_list (pv 1) pe_int (fun _ _ => rfl)) (pa_cons pe_str (pa_cons pe_int (pa_cons (ClX.pe_cval (pe_ga T.c_World.gC) rfl) pa_nil)))))
  (pss_cons (ps_expr (pe_m0 D_Line_finish T.c_Line.cl (hr.mono (by omega)) pass0 (pe_ix ix_list (pv 1) pe_int (fun _ _ => rfl))))
  (pss_one (ps_ret (pe_mk DI_World T.c_World (hr.mono (by omega)) pass0 (pa_cons (pv 0) (pa_cons (pv 2) (pa_cons (pe_f D_read_things (hr.mono (by omega)) pass0 (pa_cons (pe_slice sl_list (pv 1) (po_some pe_int) po_none) (pa_cons (pv 2) pa_nil))) pa_nil)))))))))
    , ?_⟩
  refine ⟨_, rfl, linesW W, rfl, linesW_ok wok, Nat.le_trans (linesW_len wok) (by decide), textW_len wok, fun p as H1 s1 hp hfr hnd hpp hpr => ?_⟩
  obtain ⟨a0, ar, rfl⟩ : ∃ a0 ar, as = a0 :: ar := by
    cases hpr with
    | cons _ _ => exact ⟨_, _, rfl⟩
  obtain ⟨L0, hpr2⟩ : LnAt CL H1 a0 (wHor W.horizon) 0 ∧ Paired (fun a l => LnAt CL H1 a l 0) ar (restW W) := by
    cases hpr with
    | cons x y => exact ⟨x, y⟩
  have hl0 : a0 ≠ p := by
    obtain ⟨dx, n, wl, c, g1, g2⟩ := L0.ex
    exact ne_of g1 hpp (fun z => nomatch z)
  refine ⟨_, rfl, p, _, rfl, .inl (SqL.of hpp), rfl, _, rfl, iteF' (decide_eq_false fun z => by
    have z2 := V.int.inj z
    rw [List.length_map, List.length_cons] at z2
    omega) ?_⟩
  obtain ⟨tk, hv⟩ := T.v_MOST_HORIZON
  have hh := wok.horizon
  obtain ⟨dx0, fs0, g0, z0⟩ := LnAt.no L0 (m := "read_field") (by decide +kernel) (by decide +kernel) (by decide +kernel) (by decide +kernel)
  refine ⟨_, rfl, p, _, _, .ref a0, rfl, rfl, SqL.of hpp, atI_nat (j := 0) rfl, a0, _, _, rfl, g0, z0, CW, _, _, _, rfl, T.rdW, hv, a0, _, 0, _, _, _, W.horizon, rfl, L0, rfl, rfl, by omega, by omega, by omega, by omega, fun H2 s2 L2 => ?_⟩
  have hpp2 := s2 _ _ hl0.symm hpp
  obtain ⟨dx1, fs1, g1, z1⟩ := LnAt.no L2 (m := "finish") (by decide +kernel) (by decide +kernel) (by decide +kernel) (by decide +kernel)
  refine ⟨_, rfl, p, _, _, .ref a0, rfl, rfl, SqL.of hpp2, atI_nat (j := 0) rfl, a0, _, _, rfl, g1, z1, a0, _, rfl, L2, ?_⟩
  have sl : cutV ((a0 :: ar).map V.ref) (some 1) none = ar.map V.ref := by
    unfold cutV
    rw [show HT.sIx ((a0 :: ar).map V.ref).length 0 (some 1) = min 1 ((a0 :: ar).map V.ref).length from HT.sIx_nat _ 0 1, HT.sIx_none]
    rw [List.map_cons, List.length_cons, show min 1 ((ar.map V.ref).length + 1) = 1 by omega]
    show List.take ((ar.map V.ref).length + 1 - 1) (ar.map V.ref) = ar.map V.ref
    rw [Nat.add_sub_cancel, List.take_length]
  refine ⟨_, rfl, _, rfl, _, rfl, 1, rfl, p, _, rfl, SqL.of hpp2, fun p2 hp2 => ?_⟩
  rw [sl]
  have nd2 := List.nodup_cons.mp hnd
  refine ⟨_, rfl, p2, ar, W, rfl, SqL.of upd_same, nd2.2, wok, ?_, fun th l0 l1 l2 l3 H3 s3 hT => ?_⟩
  · -- the lines stay
    have key : ∀ {as : List Addr} {ls : List (List Str)}, a0 ∉ as → Paired (fun a l => LnAt CL H1 a l 0) as ls → Paired (fun a l => LnAt CL (upd H2 p2 (.lst (ar.map V.ref))) a l 0) as ls := by
      intro as ls hn hp
      induction hp with
      | nil => exact .nil
      | cons x _ ih =>
        refine .cons ?_ (ih fun z => hn (List.mem_cons_of_mem _ z))
        exact (x.sx L0 (fun z => hn (z ▸ List.mem_cons_self)) s2).same (same_new hp2 _)
    exact key nd2.1 hpr2
  refine fun x dx hx hdx ne => ?_
  have sm : Same H3 (upd (upd H3 dx (.own x)) x (.ins CW dx [])) := fun b o e => by
    rw [upd_ne (ne_of_none e hx), upd_ne (ne_of_none e hdx)]
    exact e
  refine ⟨x, dx, W, th, l0, l1, l2, l3, rfl, upd_same, hT.same sm, fun H4 s4 hW => ⟨rfl, ?_⟩⟩
  have all : Same H H3 := fun b o e => by
    have n0 : b ≠ a0 := ne_of_none e (hfr a0 List.mem_cons_self)
    refine s3 b o (fun z => ?_) (same_new hp2 _ b o (s2 b o n0 (s1 b o e)))
    exact ne_of_none e (hfr b (List.mem_cons_of_mem _ z)) rfl
  refine q x H4 (all.free hx) (fun b o e => ?_) hW
  have e3 := all b o e
  exact s4 b o (ne_of_none e3 hx) (sm b o e3)
end
end DP
namespace DP
open PySem PySem.Spec PyProof.Rows L2
abbrev s__law_cell : Stmt := topS 79
theorem sc__law_cell : FnScope ["script", "k"] ["script", "k"] (defScope s__law_cell) := ⟨rfl, rfl, rfl, by decide +kernel, rfl, by decide +kernel, by decide +kernel⟩
abbrev s__law_draws : Stmt := topS 80
theorem sc__law_draws : FnScope ["cell", "count", "result", "rest", "k", "mixed"] ["cell", "count"] (defScope s__law_draws) := ⟨rfl, rfl, rfl, by decide +kernel, rfl, by decide +kernel, by decide +kernel⟩
abbrev s__law_satellite : Stmt := topS 81
theorem sc__law_satellite : FnScope ["cell", "k", "n", "battery", "level", "reserve", "text", "first"] ["cell", "k"] (defScope s__law_satellite) := ⟨rfl, rfl, rfl, by decide +kernel, rfl, by decide +kernel, by decide +kernel⟩
abbrev s__law_recording : Stmt := topS 82
theorem sc__law_recording : FnScope ["cell", "k", "satellites", "n", "earliest", "text"] ["cell", "k", "satellites"] (defScope s__law_recording) := ⟨rfl, rfl, rfl, by decide +kernel, rfl, by decide +kernel, by decide +kernel⟩
abbrev s__law_pass : Stmt := topS 83
theorem sc__law_pass : FnScope ["cell", "k", "satellites", "stations", "n", "first", "text"] ["cell", "k", "satellites", "stations"] (defScope s__law_pass) := ⟨rfl, rfl, rfl, by decide +kernel, rfl, by decide +kernel, by decide +kernel⟩
theorem tl_app (x y : Str) : tl (x ++ y) = tl x ++ tl y := TL.tl_append x y
theorem len_app (a b : Str) : (a ++ b).length = a.length + b.length := by
  rw [TL.len_tl, TL.len_tl, TL.len_tl, show TL.tl (a ++ b) = TL.tl a ++ TL.tl b from TL.tl_append a b, List.length_append]
theorem lit_len (s : String) : (Str.ofString s).length = s.length := by
  rw [TL.len_tl, TL.tl_ofString, List.length_map]
  rfl
theorem log_ok {n : Int} (h0 : 0 ≤ n) (h1 : n < 10000000) : n.natAbs.log2 < 1920 := by
  by_cases c : n.natAbs = 0
  · rw [c]; decide
  · refine (Nat.log2_lt c).mpr ?_
    have : n.natAbs < 2 ^ 24 := by omega
    exact Nat.lt_of_lt_of_le this (Nat.pow_le_pow_right (by decide) (by decide))
theorem num_len {n : Int} (h0 : 0 ≤ n) (h1 : n < 10000000) : (num n).length ≤ 7 := by
  rw [TL.len_tl, show TL.tl (num n) = tl (num n) from rfl, num_nat h0]
  exact numL_len7 (by omega)
theorem tos_len {n : Int} (h0 : 0 ≤ n) (h1 : n < 10000000) : (toString n).length ≤ 7 := by
  have h := num_len h0 h1
  unfold num at h
  rw [lit_len] at h
  exact h
theorem ll0 : ("satellite s" : String).length = 11 := by decide +kernel
theorem ll1 : (" store " : String).length = 7 := by decide +kernel
theorem ll2 : (" battery " : String).length = 9 := by decide +kernel
theorem ll3 : (" level " : String).length = 7 := by decide +kernel
theorem ll4 : (" reserve " : String).length = 9 := by decide +kernel
theorem ll5 : (" charge " : String).length = 8 := by decide +kernel
theorem ll6 : (" settle " : String).length = 8 := by decide +kernel
theorem ll7 : (" light" : String).length = 6 := by decide +kernel
theorem ll8 : (" " : String).length = 1 := by decide +kernel
theorem ll9 : ("\n" : String).length = 1 := by decide +kernel
theorem ll10 : ("recording r" : String).length = 11 := by decide +kernel
theorem ll11 : (" by s" : String).length = 5 := by decide +kernel
theorem ll12 : (" from " : String).length = 6 := by decide +kernel
theorem ll13 : (" to " : String).length = 4 := by decide +kernel
theorem ll14 : (" length " : String).length = 8 := by decide +kernel
theorem ll15 : (" size " : String).length = 6 := by decide +kernel
theorem ll16 : (" energy " : String).length = 8 := by decide +kernel
theorem ll17 : (" worth " : String).length = 7 := by decide +kernel
theorem ll18 : (" rank " : String).length = 6 := by decide +kernel
theorem ll19 : (" until " : String).length = 7 := by decide +kernel
theorem ll20 : ("pass p" : String).length = 6 := by decide +kernel
theorem ll21 : (" over t" : String).length = 7 := by decide +kernel
theorem ll22 : (" room " : String).length = 6 := by decide +kernel
theorem ll23 : (" fee " : String).length = 5 := by decide +kernel
theorem ll24 : ("station t" : String).length = 9 := by decide +kernel
theorem ll25 : (" antennas " : String).length = 10 := by decide +kernel
theorem ll26 : (" turn " : String).length = 6 := by decide +kernel
theorem glue_snoc (l : List Str) (r : Str) : glue (l ++ [r]) = glue l ++ (r ++ nl) := by
  refine TL.ext_tl ?_
  show tl (glue (l ++ [r])) = tl (glue l ++ (r ++ nl))
  rw [tl_app, tl_app, tl_nl, glue_tl, glue_tl, List.map_append, List.flatten_append]
  simp
theorem big {m : Nat} (h : m ≤ 16000000) : m ≤ sizeLine := Nat.le_trans h (by decide)
def nameC (c : Str) (k : Int) : Str := c ++ num k
theorem nameC_ok {c : Str} {x k : Nat} (hc : tl c = [x]) (hx : isL x = true) (hk : k < 10) : NameOk (nameC c (k : Int)) := by
  refine ⟨x, [48 + k], ?_, hx, fun y hy => ?_, by show 1 ≤ 14; decide⟩
  · unfold nameC
    rw [tl_app, hc, num_nat (by omega), show ((k : Int)).toNat = k by omega, TL.numL_lt hk]
    rfl
  · rw [List.mem_singleton.mp hy]
    have : isD (48 + k) = true := by
      unfold isD
      rw [decide_eq_true (by omega : 48 ≤ 48 + k), decide_eq_true (by omega : 48 + k ≤ 57)]
      rfl
    rw [this, Bool.or_true]
theorem nameC_inj {c : Str} {j k : Int} (hj : 0 ≤ j) (hk : 0 ≤ k) (h : nameC c j = nameC c k) : j = k := by
  have e : tl (nameC c j) = tl (nameC c k) := congrArg tl h
  unfold nameC at e
  rw [tl_app, tl_app] at e
  have e2 := List.append_cancel_left e
  exact num_inj hj hk (TL.ext_tl e2)
/-- the names of the things of a sort, as they come -/
def Nam (c : Str) (ns : List Str) : Prop := ns = (List.range ns.length).map fun k => nameC c (k : Nat)
theorem Nam.nil (c : Str) : Nam c [] := rfl
theorem Nam.snoc {c : Str} {ns : List Str} (h : Nam c ns) : Nam c (ns ++ [nameC c (ns.length : Nat)]) := by
  unfold Nam at h ⊢
  rw [List.length_append, List.length_singleton, List.range_succ, List.map_append, ← h]
  rfl
theorem Nam.at {c : Str} {ns : List Str} (h : Nam c ns) {i : Nat} (hi : i < ns.length) : ns[i]? = some (nameC c (i : Nat)) := by
  unfold Nam at h
  rw [h, List.getElem?_map, List.getElem?_range hi]
  rfl
theorem Nam.nodup {c : Str} {ns : List Str} (h : Nam c ns) : ns.Nodup := by
  unfold Nam at h
  rw [h]
  refine List.Pairwise.map _ (fun a b hab => ?_) List.nodup_range
  intro z
  have := nameC_inj (by omega) (by omega) z
  exact hab (by omega)
def cS : Str := Str.ofString "s"
def cT : Str := Str.ofString "t"
def cR : Str := Str.ofString "r"
def cP : Str := Str.ofString "p"
def wRecN (sn : Str) (r : RecD) : List Str := [Str.ofString "recording", r.name, Str.ofString "by", sn, Str.ofString "from", num r.earliest, Str.ofString "to", num r.latest,
  Str.ofString "length", num r.length, Str.ofString "size", num r.size, Str.ofString "energy", num r.energy, Str.ofString "worth", num r.worth, Str.ofString "rank", num r.rank, Str.ofString "until", num r.deadline]
def wPasN (sn tn : Str) (p : PasD) : List Str := [Str.ofString "pass", p.name, Str.ofString "by", sn, Str.ofString "over", tn, Str.ofString "from", num p.first, Str.ofString "to", num p.fin,
  Str.ofString "room", num p.room, Str.ofString "energy", num p.energy, Str.ofString "fee", num p.fee]
theorem row_tl (ws : List Str) : tl (row ws) = TL.joinL (tl sp) (ws.map tl) := TL.tl_join sp ws
theorem joinL_app {S : List Nat} : ∀ {a b : List (List Nat)}, a ≠ [] → b ≠ [] → TL.joinL S (a ++ b) = TL.joinL S a ++ (S ++ TL.joinL S b)
  | [], _, h, _ => absurd rfl h
  | [x], b, _, h => by
    cases b with
    | nil => exact absurd rfl h
    | cons y r => rfl
  | x :: y :: r, b, _, h => by
    show x ++ (S ++ TL.joinL S ((y :: r) ++ b)) = (x ++ (S ++ TL.joinL S (y :: r))) ++ (S ++ TL.joinL S b)
    rw [joinL_app (List.cons_ne_nil _ _) h]
    simp only [List.append_assoc]
theorem row_two {ws : List Str} (h : ws ≠ []) (x y : Str) : row ws ++ Str.ofString " " ++ x ++ Str.ofString " " ++ y = row (ws ++ [x, y]) := by
  refine TL.ext_tl ?_
  show tl _ = tl _
  simp only [tl_app, row_tl]
  rw [List.map_append, joinL_app (by simpa using h) (by simp), show tl (Str.ofString " ") = tl sp by decide +kernel]
  show _ = _ ++ (tl sp ++ (tl x ++ (tl sp ++ tl y)))
  simp only [List.append_assoc]
theorem row_sat0 (k st b l r c se : Int) : Str.ofString "satellite s" ++ num k ++ Str.ofString " store " ++ num st ++ Str.ofString " battery " ++ num b ++ Str.ofString " level " ++ num l ++ Str.ofString " reserve " ++ num r ++ Str.ofString " charge " ++ num c ++ Str.ofString " settle " ++ num se ++ Str.ofString " light" =
    row (wSat ⟨nameC cS k, st, b, l, r, c, se, []⟩) := by
  refine TL.ext_tl ?_
  show tl _ = tl _
  rw [row_tl]
  show tl _ = tl (Str.ofString "satellite") ++ (tl sp ++ (tl (cS ++ num k) ++ (tl sp ++ (tl (Str.ofString "store") ++ (tl sp ++ (tl (num st) ++ (tl sp ++ (tl (Str.ofString "battery") ++ (tl sp ++ (tl (num b) ++ (tl sp ++ (tl (Str.ofString "level") ++ (tl sp ++ (tl (num l) ++ (tl sp ++
    (tl (Str.ofString "reserve") ++ (tl sp ++ (tl (num r) ++ (tl sp ++ (tl (Str.ofString "charge") ++ (tl sp ++ (tl (num c) ++ (tl sp ++ (tl (Str.ofString "settle") ++ (tl sp ++ (tl (num se) ++ (tl sp ++ tl (Str.ofString "light"))))))))))))))))))))))))))))
  simp only [tl_app]
  rw [show tl (Str.ofString "satellite s") = tl (Str.ofString "satellite") ++ (tl sp ++ tl cS) by decide +kernel, show tl (Str.ofString " store ") = tl sp ++ (tl (Str.ofString "store") ++ tl sp) by decide +kernel, show tl (Str.ofString " battery ") = tl sp ++ (tl (Str.ofString "battery") ++ tl sp) by decide +kernel, show tl (Str.ofString " level ") = tl sp ++ (tl (Str.ofString "level") ++ tl sp) by decide +kernel, show tl (Str.ofString " reserve ") = tl sp ++ (tl (Str.ofString "reserve") ++ tl sp) by decide +kernel, show tl (Str.ofString " charge ") = tl sp ++ (tl (Str.ofString "charge") ++ tl sp) by decide +kernel, show tl (Str.ofString " settle ") = tl sp ++ (tl (Str.ofString "settle") ++ tl sp) by decide +kernel, show tl (Str.ofString " light") = tl sp ++ tl (Str.ofString "light") by decide +kernel]
  simp only [List.append_assoc]
theorem row_recC (k s e l n z en wo ra d : Int) : Str.ofString "recording r" ++ num k ++ Str.ofString " by s" ++ num s ++ Str.ofString " from " ++ num e ++ Str.ofString " to " ++ num l ++ Str.ofString " length " ++ num n ++ Str.ofString " size " ++ num z ++ Str.ofString " energy " ++ num en ++ Str.ofString " worth " ++ num wo ++ Str.ofString " rank " ++ num ra ++ Str.ofString " until " ++ num d ++ Str.ofString "\n" =
    row (wRecN (nameC cS s) ⟨nameC cR k, s.toNat, e, l, n, z, en, wo, ra, d⟩) ++ nl := by
  refine TL.ext_tl ?_
  show tl _ = tl (row _ ++ nl)
  rw [tl_app (row _), row_tl]
  show tl _ = (tl (Str.ofString "recording") ++ (tl sp ++ (tl (cR ++ num k) ++ (tl sp ++ (tl (Str.ofString "by") ++ (tl sp ++ (tl (cS ++ num s) ++ (tl sp ++ (tl (Str.ofString "from") ++ (tl sp ++ (tl (num e) ++ (tl sp ++ (tl (Str.ofString "to") ++ (tl sp ++ (tl (num l) ++ (tl sp ++ (tl (Str.ofString "length") ++ (tl sp ++ (tl (num n) ++ (tl sp ++
    (tl (Str.ofString "size") ++ (tl sp ++ (tl (num z) ++ (tl sp ++ (tl (Str.ofString "energy") ++ (tl sp ++ (tl (num en) ++ (tl sp ++ (tl (Str.ofString "worth") ++ (tl sp ++ (tl (num wo) ++ (tl sp ++ (tl (Str.ofString "rank") ++ (tl sp ++ (tl (num ra) ++ (tl sp ++ (tl (Str.ofString "until") ++ (tl sp ++ tl (num d))))))))))))))))))))))))))))))))))))))) ++ tl nl
  simp only [tl_app]
  rw [show tl (Str.ofString "recording r") = tl (Str.ofString "recording") ++ (tl sp ++ tl cR) by decide +kernel, show tl (Str.ofString " by s") = tl sp ++ (tl (Str.ofString "by") ++ (tl sp ++ tl cS)) by decide +kernel, show tl (Str.ofString " from ") = tl sp ++ (tl (Str.ofString "from") ++ tl sp) by decide +kernel, show tl (Str.ofString " to ") = tl sp ++ (tl (Str.ofString "to") ++ tl sp) by decide +kernel, show tl (Str.ofString " length ") = tl sp ++ (tl (Str.ofString "length") ++ tl sp) by decide +kernel, show tl (Str.ofString " size ") = tl sp ++ (tl (Str.ofString "size") ++ tl sp) by decide +kernel, show tl (Str.ofString " energy ") = tl sp ++ (tl (Str.ofString "energy") ++ tl sp) by decide +kernel, show tl (Str.ofString " worth ") = tl sp ++ (tl (Str.ofString "worth") ++ tl sp) by decide +kernel, show tl (Str.ofString " rank ") = tl sp ++ (tl (Str.ofString "rank") ++ tl sp) by decide +kernel, show tl (Str.ofString " until ") = tl sp ++ (tl (Str.ofString "until") ++ tl sp) by decide +kernel, show tl (Str.ofString "\n") = tl nl by decide +kernel]
  simp only [List.append_assoc]
theorem row_pasC (k s t f n ro en fe : Int) : Str.ofString "pass p" ++ num k ++ Str.ofString " by s" ++ num s ++ Str.ofString " over t" ++ num t ++ Str.ofString " from " ++ num f ++ Str.ofString " to " ++ num n ++ Str.ofString " room " ++ num ro ++ Str.ofString " energy " ++ num en ++ Str.ofString " fee " ++ num fe ++ Str.ofString "\n" =
    row (wPasN (nameC cS s) (nameC cT t) ⟨nameC cP k, s.toNat, t.toNat, f, n, ro, en, fe⟩) ++ nl := by
  refine TL.ext_tl ?_
  show tl _ = tl (row _ ++ nl)
  rw [tl_app (row _), row_tl]
  show tl _ = (tl (Str.ofString "pass") ++ (tl sp ++ (tl (cP ++ num k) ++ (tl sp ++ (tl (Str.ofString "by") ++ (tl sp ++ (tl (cS ++ num s) ++ (tl sp ++ (tl (Str.ofString "over") ++ (tl sp ++ (tl (cT ++ num t) ++ (tl sp ++ (tl (Str.ofString "from") ++ (tl sp ++ (tl (num f) ++ (tl sp ++ (tl (Str.ofString "to") ++ (tl sp ++ (tl (num n) ++ (tl sp ++
    (tl (Str.ofString "room") ++ (tl sp ++ (tl (num ro) ++ (tl sp ++ (tl (Str.ofString "energy") ++ (tl sp ++ (tl (num en) ++ (tl sp ++ (tl (Str.ofString "fee") ++ (tl sp ++ tl (num fe))))))))))))))))))))))))))))))) ++ tl nl
  simp only [tl_app]
  rw [show tl (Str.ofString "pass p") = tl (Str.ofString "pass") ++ (tl sp ++ tl cP) by decide +kernel, show tl (Str.ofString " by s") = tl sp ++ (tl (Str.ofString "by") ++ (tl sp ++ tl cS)) by decide +kernel, show tl (Str.ofString " over t") = tl sp ++ (tl (Str.ofString "over") ++ (tl sp ++ tl cT)) by decide +kernel, show tl (Str.ofString " from ") = tl sp ++ (tl (Str.ofString "from") ++ tl sp) by decide +kernel, show tl (Str.ofString " to ") = tl sp ++ (tl (Str.ofString "to") ++ tl sp) by decide +kernel, show tl (Str.ofString " room ") = tl sp ++ (tl (Str.ofString "room") ++ tl sp) by decide +kernel, show tl (Str.ofString " energy ") = tl sp ++ (tl (Str.ofString "energy") ++ tl sp) by decide +kernel, show tl (Str.ofString " fee ") = tl sp ++ (tl (Str.ofString "fee") ++ tl sp) by decide +kernel, show tl (Str.ofString "\n") = tl nl by decide +kernel]
  simp only [List.append_assoc]
theorem glue_staC (rows : List (List Str)) (k a t : Int) : glue (rows.map row) ++ Str.ofString "station t" ++ num k ++ Str.ofString " antennas " ++ num a ++ Str.ofString " turn " ++ num t ++ Str.ofString "\n" = glue ((rows ++ [wSta ⟨nameC cT k, a, t⟩]).map row) := by
  rw [List.map_append, show [wSta ⟨nameC cT k, a, t⟩].map row = [row (wSta ⟨nameC cT k, a, t⟩)] from rfl, glue_snoc]
  refine TL.ext_tl ?_
  show tl _ = tl (_ ++ (row _ ++ nl))
  rw [tl_app (glue _), tl_app (row _), row_tl]
  show tl _ = tl (glue (rows.map row)) ++ ((tl (Str.ofString "station") ++ (tl sp ++ (tl (cT ++ num k) ++ (tl sp ++ (tl (Str.ofString "antennas") ++ (tl sp ++ (tl (num a) ++ (tl sp ++ (tl (Str.ofString "turn") ++ (tl sp ++ tl (num t))))))))))) ++ tl nl)
  simp only [tl_app]
  rw [show tl (Str.ofString "station t") = tl (Str.ofString "station") ++ (tl sp ++ tl cT) by decide +kernel, show tl (Str.ofString " antennas ") = tl sp ++ (tl (Str.ofString "antennas") ++ tl sp) by decide +kernel, show tl (Str.ofString " turn ") = tl sp ++ (tl (Str.ofString "turn") ++ tl sp) by decide +kernel, show tl (Str.ofString "\n") = tl nl by decide +kernel]
  simp only [List.append_assoc]
/-- a line behind the others -/
theorem glue_add (rows : List (List Str)) (ws : List Str) : glue (rows.map row) ++ (row ws ++ nl) = glue ((rows ++ [ws]).map row) := by
  rw [List.map_append, show [ws].map row = [row ws] from rfl, glue_snoc]
end DP
namespace DP
open PySem PySem.Spec PyProof.Rows L2
section
variable {P : Program} {w : World} {K : PySem.W.Frag} {mg : Str → Option Value} {base : Heap}
/-- some int -/
def spCell (K : PySem.W.Frag) : Sp := fun vs H Q _ => ∃ (a : Addr) (ns : List Int) (k : Int), vs = [.ref a, .int k] ∧ SqL K H a (ns.map V.int) ∧ 0 ≤ k ∧ ∀ v : Int, Q (.int v) H
theorem d_cell (B : Bt mg) (A : At K mg "_law_cell" s__law_cell ["script", "k"]) : DefOk P w K mg base CX0 1 "_law_cell" ["script", "k"] (DP.spCell K) := by
  refine A.ok sc__law_cell (fun vs H Q E h => ?_) (fun f cdv A outer s H vs Q E hr h => ?_)
  · obtain ⟨a, ns, k, rfl, _⟩ := h
    rfl
  obtain ⟨a, ns, k, rfl, hS, h0, q⟩ := h
  refine ⟨_, pss_cons (ps_if (pt_cmpR op_lt (pv 1) (pe_callB (call_len_seq) (by rfl) B.len (by decide +kernel) (pa_cons (pv 0) pa_nil)) (nomark _))
      (pss_one (ps_ret (pe_ix ix_list (pv 0) (pv 1) (fun _ _ => rfl))))
      (pss_nil))
  (pss_one (ps_ret pe_int))
    , ?_⟩
  refine ⟨_, rfl, _, rfl, a, _, rfl, .inl hS, _, _, rfl, rfl, _, rfl, ?_⟩
  refine ite2 (fun c => ?_) (fun c => ?_)
  · have c' : k < (((ns.map V.int).length : Nat) : Int) := of_decide_eq_true c
    rw [List.length_map] at c'
    have hk : k.toNat < ns.length := by omega
    have ek : k = ((k.toNat : Nat) : Int) := by omega
    have g : (ns.map V.int)[k.toNat]? = some (.int ns[k.toNat]) := by rw [List.getElem?_map, List.getElem?_eq_getElem hk] <;> rfl
    have g2 : atI (ns.map V.int) k = some (.int ns[k.toNat]) := by
      have := atI_nat g
      rw [← ek] at this
      exact this
    exact ⟨_, rfl, _, rfl, a, _, _, _, rfl, rfl, hS, g2, q _⟩
  · exact q 0
/-- a new list of so many ints -/
def spDrawsC : Sp := fun vs H Q _ => ∃ (c : Int) (n : Nat), vs = [.int c, .int (n : Int)] ∧ n ≤ 60 ∧ ∀ (p : Addr) (ds : List Int) (H' : Hp), Same H H' → H p = none → ds.length = n → H' p = some (.lst (ds.map V.int)) → Q (.ref p) H'
theorem d_draws (B : Bt mg) (A : At K mg "_law_draws" s__law_draws ["cell", "count"]) : DefOk P w K mg base CX0 1 "_law_draws" ["cell", "count"] spDrawsC := by
  refine A.ok sc__law_draws (fun vs H Q E h => ?_) (fun f cdv A outer s H vs Q E hr h => ?_)
  · obtain ⟨c, n, rfl, _⟩ := h
    rfl
  obtain ⟨c, n, rfl, hn, q⟩ := h
  refine ⟨_, pss_cons (ps_set (i := 2) sc__law_draws.nd rfl (Or.inl rfl) (pe_lst pa_nil))
  (pss_cons (ps_set (i := 3) sc__law_draws.nd rfl (Or.inl rfl) (pe_callTy (call_int1) (by rfl) B.int (by decide +kernel) (pa_cons (pv 0) pa_nil)))
  (pss_cons (ps_for PassesOwn.never rfl (pi_range1 (by rfl) B.range (pa_cons (pv 1) pa_nil)) (pg_name (i := 4) sc__law_draws.nd rfl (Or.inl rfl))
      (pss_cons (ps_set (i := 5) sc__law_draws.nd rfl (Or.inl rfl) (pe_op op_mod (pe_callTy (call_int1) (by rfl) B.int (by decide +kernel) (pa_cons (pe_op op_add (pe_op op_add (pe_op op_mul (pv 0) pe_int) (pe_op op_mul (pv 4) pe_int)) pe_int) pa_nil)) pe_int))
      (pss_one (ps_if (pt_cmpR op_ge (pv 0) (pe_op op_pow pe_int pe_int) (nomark _))
          (pss_cons (ps_expr (pe_bm PySem.F.plainAttrs_list PySem.F.slot_list_append PySem.F.type_list_append mt_append (pv 2) (pa_cons (pe_op op_mod (pv 3) pe_int) pa_nil)))
          (pss_one (ps_set (i := 3) sc__law_draws.nd rfl (Or.inl rfl) (pe_op op_fdiv (pv 3) pe_int))))
          (pss_one (ps_expr (pe_bm PySem.F.plainAttrs_list PySem.F.slot_list_append PySem.F.type_list_append mt_append (pv 2) (pa_cons (pe_op op_fdiv (pe_op op_mod (pe_callTy (call_int1) (by rfl) B.int (by decide +kernel) (pa_cons (pe_op op_add (pe_op op_mul (pv 5) (pv 5)) (pe_op op_mul (pv 5) pe_int)) pa_nil)) pe_int) pe_int) pa_nil))))))))
  (pss_one (ps_ret (pv 2)))))
    , ?_⟩
  refine ⟨Nat.zero_le _, fun p hp => ?_⟩
  refine ⟨_, rfl, .inl ⟨_, rfl, ?_⟩⟩
  refine ⟨_, rfl, (n : Int), rfl, by omega, by omega, for_range (n := (n : Int).toNat) (fun i σ H' => ∃ (rest : Int) (ds : List Int) (y4 y5 : Option V), σ = [some (.int c), some (.int (n : Int)), some (.ref p), some (.int rest), y4, y5] ∧ ds.length = i ∧ H' p = some (.lst (ds.map V.int)) ∧ Same H H')
    ⟨c, [], none, none, rfl, rfl, upd_same, same_new hp _⟩ (fun i σ H1 hi hI => ?_) (fun σ H1 hI => ?_)⟩
  · obtain ⟨rest, ds, y4, y5, rfl, hl, hpp, hs⟩ := hI
    have room : (ds.map V.int).length < sizeLine := by
      rw [List.length_map, hl]
      exact small1000 (by omega)
    have put : ∀ v : Int, (upd H1 p (.lst (ds.map V.int ++ [.int v]))) p = some (.lst ((ds ++ [v]).map V.int)) := fun v => by
      rw [upd_same, List.map_append] <;> rfl
    have grow : ∀ v : Int, (ds ++ [v]).length = i + 1 := fun v => by
      rw [List.length_append, hl, List.length_singleton]
    refine ⟨_, rfl, _, _, rfl, rfl, .inr ⟨by decide, by decide⟩, _, rfl, _, _, rfl, rfl, .inr ⟨by decide, by decide⟩, _, _, rfl, rfl, _, _, rfl, rfl, .inl ⟨_, rfl, _, _, rfl, rfl, (by show (0 : Int) < _; decide), ?_⟩⟩
    generalize hm : ((c * 48271 + (0 + (i : Nat)) * 69621 + 1) % 2147483647 : Int) = m1
    have b1 : 0 ≤ m1 := by rw [← hm]; exact Int.emod_nonneg _ (by decide)
    have b2 : m1 < 2147483647 := by rw [← hm]; exact Int.emod_lt_of_pos _ (by decide)
    refine ⟨_, rfl, _, _, rfl, rfl, ⟨by decide, by decide, by decide⟩, _, _, rfl, rfl, _, rfl, ite2 (fun c1 => ?_) (fun c1 => ?_)⟩
    · refine ⟨_, rfl, .inl ⟨rfl, _, SqL.of hpp⟩, _, rfl, _, _, rfl, rfl, (by show (0 : Int) < _; decide), _, _, _, rfl, rfl, hpp, room, ?_⟩
      refine ⟨_, rfl, _, _, rfl, rfl, ⟨by decide, by decide⟩, ?_⟩
      exact ⟨_, _, _, _, rfl, grow _, put _, same_at hp hs _⟩
    · refine ⟨_, rfl, .inl ⟨rfl, _, SqL.of hpp⟩, _, rfl, _, rfl, _, _, rfl, rfl, .inl ⟨by (clear B hr hn q hp hi hpp hs room put grow hm b1 b2 c1; omega), by (clear B hr hn q hp hi hpp hs room put grow hm b1 b2 c1; omega)⟩, _, rfl, _, _, rfl, rfl, .inr ⟨by decide, by decide⟩, _, _, rfl, rfl, .inl ⟨_, rfl, _, _, rfl, rfl, (by show (0 : Int) < _; decide), _, _, rfl, rfl, ⟨by decide, by decide⟩, _, _, _, rfl, rfl, hpp, room, ?_⟩⟩
      exact ⟨_, _, _, _, rfl, grow _, put _, same_at hp hs _⟩
  · obtain ⟨rest, ds, y4, y5, rfl, hl, hpp, hs⟩ := hI
    exact ⟨_, rfl, q p ds H1 hs hp (by omega) hpp⟩
end
end DP
namespace DP
open PySem PySem.Spec PyProof.Rows L2
theorem ten {ds : List Int} (h : ds.length = 10) : ∃ d0 d1 d2 d3 d4 d5 d6 d7 d8 d9, ds = [d0, d1, d2, d3, d4, d5, d6, d7, d8, d9] := match ds, h with | [_, _, _, _, _, _, _, _, _, _], _ => ⟨_, _, _, _, _, _, _, _, _, _, rfl⟩
theorem nine {ds : List Int} (h : ds.length = 9) : ∃ d0 d1 d2 d3 d4 d5 d6 d7 d8, ds = [d0, d1, d2, d3, d4, d5, d6, d7, d8] := match ds, h with | [_, _, _, _, _, _, _, _, _], _ => ⟨_, _, _, _, _, _, _, _, _, rfl⟩
theorem seven {ds : List Int} (h : ds.length = 7) : ∃ d0 d1 d2 d3 d4 d5 d6, ds = [d0, d1, d2, d3, d4, d5, d6] := match ds, h with | [_, _, _, _, _, _, _], _ => ⟨_, _, _, _, _, _, _, rfl⟩
theorem two_ {ds : List Int} (h : ds.length = 2) : ∃ d0 d1, ds = [d0, d1] := match ds, h with | [_, _], _ => ⟨_, _, rfl⟩
theorem satL0 (k st b l r c se : Int) : Str.ofString "satellite s" ++ num k ++ Str.ofString " store " ++ num st ++ Str.ofString " battery " ++ num b ++ Str.ofString " level " ++ num l ++ Str.ofString " reserve " ++ num r ++ Str.ofString " charge " ++ num c ++ Str.ofString " settle " ++ num se ++ Str.ofString " light" ++ Str.ofString "\n" =
    row (wSat ⟨nameC cS k, st, b, l, r, c, se, []⟩) ++ nl := by
  rw [row_sat0]
  rfl
theorem satL1 (k st b l r c se x y : Int) : Str.ofString "satellite s" ++ num k ++ Str.ofString " store " ++ num st ++ Str.ofString " battery " ++ num b ++ Str.ofString " level " ++ num l ++ Str.ofString " reserve " ++ num r ++ Str.ofString " charge " ++ num c ++ Str.ofString " settle " ++ num se ++ Str.ofString " light" ++ Str.ofString " " ++ num x ++ Str.ofString " " ++ num y ++ Str.ofString "\n" =
    row (wSat ⟨nameC cS k, st, b, l, r, c, se, [(x, y)]⟩) ++ nl := by
  rw [row_sat0, row_two (by exact List.cons_ne_nil _ _)]
  rfl
theorem satL2 (k st b l r c se x y x2 y2 : Int) : Str.ofString "satellite s" ++ num k ++ Str.ofString " store " ++ num st ++ Str.ofString " battery " ++ num b ++ Str.ofString " level " ++ num l ++ Str.ofString " reserve " ++ num r ++ Str.ofString " charge " ++ num c ++ Str.ofString " settle " ++ num se ++ Str.ofString " light" ++ Str.ofString " " ++ num x ++ Str.ofString " " ++ num y ++ Str.ofString " " ++ num x2 ++ Str.ofString " " ++ num y2 ++ Str.ofString "\n" =
    row (wSat ⟨nameC cS k, st, b, l, r, c, se, [(x, y), (x2, y2)]⟩) ++ nl := by
  rw [row_sat0, row_two (by exact List.cons_ne_nil _ _), row_two (by exact List.cons_ne_nil _ _)]
  rfl
section
variable {P : Program} {w : World} {K : PySem.W.Frag} {mg : Str → Option Value} {base : Heap}
def spSatC : Sp := fun vs H Q _ => ∃ (c : Int) (k : Nat), vs = [.int c, .int (k : Int)] ∧ k < 10 ∧ ∀ (z : SatD) (H' : Hp), Same H H' → SatOk 40 z → z.name = nameC cS (k : Int) → Q (.str (row (wSat z) ++ nl)) H'
set_option maxHeartbeats 16000000 in
theorem d_satC (B : Bt mg) (D_law_draws : DefOk P w K mg base CX0 1 "_law_draws" ["cell", "count"] spDrawsC) (A : At K mg "_law_satellite" s__law_satellite ["cell", "k"]) : DefOk P w K mg base CX0 2 "_law_satellite" ["cell", "k"] spSatC := by
  refine A.ok sc__law_satellite (fun vs H Q E h => ?_) (fun f cdv A outer s H vs Q E hr h => ?_)
  · obtain ⟨c, k, rfl, _⟩ := h
    rfl
  obtain ⟨c, k, rfl, hk, q⟩ := h
  refine ⟨_, pss_cons (ps_set (i := 2) sc__law_satellite.nd rfl (Or.inl rfl) (pe_f D_law_draws (hr.mono (by omega)) pass0 (pa_cons (pv 0) (pa_cons pe_int pa_nil))))
  (pss_cons (ps_set (i := 3) sc__law_satellite.nd rfl (Or.inl rfl) (pe_op op_add pe_int (pe_op op_mod (pe_ix ix_list (pv 2) pe_int (fun _ _ => rfl)) pe_int)))
  (pss_cons (ps_set (i := 4) sc__law_satellite.nd rfl (Or.inl rfl) (pe_op op_sub (pv 3) (pe_op op_mod (pe_ix ix_list (pv 2) pe_int (fun _ _ => rfl)) pe_int)))
  (pss_cons (ps_set (i := 5) sc__law_satellite.nd rfl (Or.inl rfl) (pe_op op_sub (pv 4) (pe_callB (call_min2 rfl) (by rfl) B.min (by decide +kernel) (pa_cons (pv 4) (pa_cons (pe_op op_mod (pe_ix ix_list (pv 2) pe_int (fun _ _ => rfl)) pe_int) pa_nil)))))
  (pss_cons (ps_set (i := 6) sc__law_satellite.nd rfl (Or.inl rfl) (pe_op op_add_str (pe_op op_add_str (pe_op op_add_str (pe_op op_add_str (pe_op op_add_str (pe_op op_add_str (pe_op op_add_str pe_str (pe_callTy (call_str_int) (by rfl) B.str (by decide +kernel) (pa_cons (pv 1) pa_nil))) pe_str) (pe_callTy (call_str_int) (by rfl) B.str (by decide +kernel) (pa_cons (pe_op op_mod (pe_ix ix_list (pv 2) pe_int (fun _ _ => rfl)) pe_int) pa_nil))) pe_str) (pe_callTy (call_str_int) (by rfl) B.str (by decide +kernel) (pa_cons (pv 3) pa_nil))) pe_str) (pe_callTy (call_str_int) (by rfl) B.str (by decide +kernel) (pa_cons (pv 4) pa_nil))))
  (pss_cons (ps_set (i := 6) sc__law_satellite.nd rfl (Or.inl rfl) (pe_op op_add_str (pe_op op_add_str (pe_op op_add_str (pe_op op_add_str (pe_op op_add_str (pe_op op_add_str (pe_op op_add_str (pv 6) pe_str) (pe_callTy (call_str_int) (by rfl) B.str (by decide +kernel) (pa_cons (pv 5) pa_nil))) pe_str) (pe_callTy (call_str_int) (by rfl) B.str (by decide +kernel) (pa_cons (pe_op op_mod (pe_ix ix_list (pv 2) pe_int (fun _ _ => rfl)) pe_int) pa_nil))) pe_str) (pe_callTy (call_str_int) (by rfl) B.str (by decide +kernel) (pa_cons (pe_op op_mod (pe_ix ix_list (pv 2) pe_int (fun _ _ => rfl)) pe_int) pa_nil))) pe_str))
  (pss_cons (ps_set (i := 7) sc__law_satellite.nd rfl (Or.inl rfl) (pe_op op_mod (pe_ix ix_list (pv 2) pe_int (fun _ _ => rfl)) pe_int))
  (pss_cons (ps_if (pt_cmpR op_gt (pe_op op_mod (pe_ix ix_list (pv 2) pe_int (fun _ _ => rfl)) pe_int) pe_int (nomark _))
      (pss_one (ps_set (i := 6) sc__law_satellite.nd rfl (Or.inl rfl) (pe_op op_add_str (pe_op op_add_str (pe_op op_add_str (pe_op op_add_str (pv 6) pe_str) (pe_callTy (call_str_int) (by rfl) B.str (by decide +kernel) (pa_cons (pv 7) pa_nil))) pe_str) (pe_callTy (call_str_int) (by rfl) B.str (by decide +kernel) (pa_cons (pe_op op_add (pe_op op_add (pv 7) pe_int) (pe_op op_mod (pe_ix ix_list (pv 2) pe_int (fun _ _ => rfl)) pe_int)) pa_nil)))))
      (pss_nil))
  (pss_cons (ps_if (pt_cmpR op_gt (pe_op op_mod (pe_ix ix_list (pv 2) pe_int (fun _ _ => rfl)) pe_int) pe_int (nomark _))
      (pss_one (ps_set (i := 6) sc__law_satellite.nd rfl (Or.inl rfl) (pe_op op_add_str (pe_op op_add_str (pe_op op_add_str (pe_op op_add_str (pv 6) pe_str) (pe_callTy (call_str_int) (by rfl) B.str (by decide +kernel) (pa_cons (pe_op op_add (pv 7) pe_int) pa_nil))) pe_str) (pe_callTy (call_str_int) (by rfl) B.str (by decide +kernel) (pa_cons (pe_op op_add (pe_op op_add (pv 7) pe_int) (pe_op op_mod (pe_ix ix_list (pv 2) pe_int (fun _ _ => rfl)) pe_int)) pa_nil)))))
      (pss_nil))
  (pss_one (ps_ret (pe_op op_add_str (pv 6) pe_str)))))))))))
    , ?_⟩
  refine ⟨_, rfl, c, 10, rfl, by decide, fun p ds H1 s1 np hl hp => ?_⟩
  obtain ⟨d0, d1, d2, d3, d4, d5, d6, d7, d8, d9, rfl⟩ := ten hl
  have e1 := tos_len (n := (k : Int)) (by omega) (by omega)
  have e2 := tos_len (n := d0 % 18) (by (clear B D_law_draws hr hk q s1 np hl hp e1; omega)) (by (clear B D_law_draws hr hk q s1 np hl hp e1; omega))
  have e3 := tos_len (n := 8 + d1 % 20) (by (clear B D_law_draws hr hk q s1 np hl hp e1 e2; omega)) (by (clear B D_law_draws hr hk q s1 np hl hp e1 e2; omega))
  have e4 := tos_len (n := 8 + d1 % 20 - d2 % 6) (by (clear B D_law_draws hr hk q s1 np hl hp e1 e2 e3; omega)) (by (clear B D_law_draws hr hk q s1 np hl hp e1 e2 e3; omega))
  have hm : 0 ≤ (if d3 % 14 < 8 + d1 % 20 - d2 % 6 then d3 % 14 else 8 + d1 % 20 - d2 % 6) ∧ (if d3 % 14 < 8 + d1 % 20 - d2 % 6 then d3 % 14 else 8 + d1 % 20 - d2 % 6) ≤ 8 + d1 % 20 - d2 % 6 := by split <;> (clear B D_law_draws hr hk q s1 np hl hp e1 e2 e3 e4; omega)
  have e5 := tos_len (n := 8 + d1 % 20 - d2 % 6 - (if d3 % 14 < 8 + d1 % 20 - d2 % 6 then d3 % 14 else 8 + d1 % 20 - d2 % 6)) (by (clear B D_law_draws hr hk q s1 np hl hp e1 e2 e3 e4; omega)) (by (clear B D_law_draws hr hk q s1 np hl hp e1 e2 e3 e4; omega))
  have e6 := tos_len (n := d4 % 4) (by (clear B D_law_draws hr hk q s1 np hl hp e1 e2 e3 e4 hm e5; omega)) (by (clear B D_law_draws hr hk q s1 np hl hp e1 e2 e3 e4 hm e5; omega))
  have e7 := tos_len (n := d5 % 3) (by (clear B D_law_draws hr hk q s1 np hl hp e1 e2 e3 e4 hm e5 e6; omega)) (by (clear B D_law_draws hr hk q s1 np hl hp e1 e2 e3 e4 hm e5 e6; omega))
  have e8 := tos_len (n := d6 % 12) (by (clear B D_law_draws hr hk q s1 np hl hp e1 e2 e3 e4 hm e5 e6 e7; omega)) (by (clear B D_law_draws hr hk q s1 np hl hp e1 e2 e3 e4 hm e5 e6 e7; omega))
  have e9 := tos_len (n := d6 % 12 + 1 + d7 % 15) (by (clear B D_law_draws hr hk q s1 np hl hp e1 e2 e3 e4 hm e5 e6 e7 e8; omega)) (by (clear B D_law_draws hr hk q s1 np hl hp e1 e2 e3 e4 hm e5 e6 e7 e8; omega))
  have e10 := tos_len (n := d6 % 12 + 18) (by (clear B D_law_draws hr hk q s1 np hl hp e1 e2 e3 e4 hm e5 e6 e7 e8 e9; omega)) (by (clear B D_law_draws hr hk q s1 np hl hp e1 e2 e3 e4 hm e5 e6 e7 e8 e9; omega))
  have e11 := tos_len (n := d6 % 12 + 19 + d9 % 10) (by (clear B D_law_draws hr hk q s1 np hl hp e1 e2 e3 e4 hm e5 e6 e7 e8 e9 e10; omega)) (by (clear B D_law_draws hr hk q s1 np hl hp e1 e2 e3 e4 hm e5 e6 e7 e8 e9 e10; omega))
  have nm := nameC_ok (c := cS) (x := 115) (by decide +kernel) (by decide) hk
  refine ⟨_, rfl, _, _, _, _, rfl, rfl, SqL.of hp, rfl, _, _, rfl, rfl, (by show (0 : Int) < _; decide), _, _, rfl, rfl, ?_⟩
  refine ⟨_, rfl, _, rfl, _, _, _, _, rfl, rfl, SqL.of hp, rfl, _, _, rfl, rfl, (by show (0 : Int) < _; decide), _, _, rfl, rfl, ?_⟩
  refine ⟨_, rfl, _, rfl, _, rfl, _, _, _, _, rfl, rfl, SqL.of hp, rfl, _, _, rfl, rfl, (by show (0 : Int) < _; decide), _, _, rfl, _, _, rfl, rfl, ?_⟩
  refine ⟨_, rfl, _, rfl, log_ok (by omega) (by omega), _, _, rfl, rfl, small (by simp only [len_app, lit_len, ll0, ll1, ll2, ll3, ll4, ll5, ll6, ll7, ll8, ll9, ll10, ll11, ll12, ll13, ll14, ll15, ll16, ll17, ll18, ll19, ll20, ll21, ll22, ll23, ll24, ll25, ll26]; (clear B D_law_draws hr hk q s1 np hl hp e2 e3 e4 hm e5 e6 e7 e8 e9 e10 e11 nm; omega)), _, _, rfl, rfl, small (by simp only [len_app, lit_len, ll0, ll1, ll2, ll3, ll4, ll5, ll6, ll7, ll8, ll9, ll10, ll11, ll12, ll13, ll14, ll15, ll16, ll17, ll18, ll19, ll20, ll21, ll22, ll23, ll24, ll25, ll26]; (clear B D_law_draws hr hk q s1 np hl hp e2 e3 e4 hm e5 e6 e7 e8 e9 e10 e11 nm; omega)), _, rfl, _, _, _, _, rfl, rfl, SqL.of hp, rfl, _, _, rfl, rfl, (by show (0 : Int) < _; decide), _, rfl, log_ok (by (clear B D_law_draws hr hk q s1 np hl hp e1 e2 e3 e4 hm e5 e6 e7 e8 e9 e10 e11 nm; omega)) (by (clear B D_law_draws hr hk q s1 np hl hp e1 e2 e3 e4 hm e5 e6 e7 e8 e9 e10 e11 nm; omega)), _, _, rfl, rfl, small (by simp only [len_app, lit_len, ll0, ll1, ll2, ll3, ll4, ll5, ll6, ll7, ll8, ll9, ll10, ll11, ll12, ll13, ll14, ll15, ll16, ll17, ll18, ll19, ll20, ll21, ll22, ll23, ll24, ll25, ll26]; (clear B D_law_draws hr hk q s1 np hl hp e3 e4 hm e5 e6 e7 e8 e9 e10 e11 nm; omega)), _, _, rfl, rfl, small (by simp only [len_app, lit_len, ll0, ll1, ll2, ll3, ll4, ll5, ll6, ll7, ll8, ll9, ll10, ll11, ll12, ll13, ll14, ll15, ll16, ll17, ll18, ll19, ll20, ll21, ll22, ll23, ll24, ll25, ll26]; (clear B D_law_draws hr hk q s1 np hl hp e3 e4 hm e5 e6 e7 e8 e9 e10 e11 nm; omega)), _, rfl, _, rfl, log_ok (by (clear B D_law_draws hr hk q s1 np hl hp e1 e2 e3 e4 hm e5 e6 e7 e8 e9 e10 e11 nm; omega)) (by (clear B D_law_draws hr hk q s1 np hl hp e1 e2 e3 e4 hm e5 e6 e7 e8 e9 e10 e11 nm; omega)), _, _, rfl, rfl, small (by simp only [len_app, lit_len, ll0, ll1, ll2, ll3, ll4, ll5, ll6, ll7, ll8, ll9, ll10, ll11, ll12, ll13, ll14, ll15, ll16, ll17, ll18, ll19, ll20, ll21, ll22, ll23, ll24, ll25, ll26]; (clear B D_law_draws hr hk q s1 np hl hp e4 hm e5 e6 e7 e8 e9 e10 e11 nm; omega)), _, _, rfl, rfl, small (by simp only [len_app, lit_len, ll0, ll1, ll2, ll3, ll4, ll5, ll6, ll7, ll8, ll9, ll10, ll11, ll12, ll13, ll14, ll15, ll16, ll17, ll18, ll19, ll20, ll21, ll22, ll23, ll24, ll25, ll26]; (clear B D_law_draws hr hk q s1 np hl hp e4 hm e5 e6 e7 e8 e9 e10 e11 nm; omega)), _, rfl, _, rfl, log_ok (by (clear B D_law_draws hr hk q s1 np hl hp e1 e2 e3 e4 e5 e6 e7 e8 e9 e10 e11 nm; omega)) (by (clear B D_law_draws hr hk q s1 np hl hp e1 e2 e3 e4 hm e5 e6 e7 e8 e9 e10 e11 nm; omega)), _, _, rfl, rfl, small (by simp only [len_app, lit_len, ll0, ll1, ll2, ll3, ll4, ll5, ll6, ll7, ll8, ll9, ll10, ll11, ll12, ll13, ll14, ll15, ll16, ll17, ll18, ll19, ll20, ll21, ll22, ll23, ll24, ll25, ll26]; (clear B D_law_draws hr hk q s1 np hl hp hm e5 e6 e7 e8 e9 e10 e11 nm; omega)), ?_⟩
  refine ⟨_, rfl, _, _, rfl, rfl, small (by simp only [len_app, lit_len, ll0, ll1, ll2, ll3, ll4, ll5, ll6, ll7, ll8, ll9, ll10, ll11, ll12, ll13, ll14, ll15, ll16, ll17, ll18, ll19, ll20, ll21, ll22, ll23, ll24, ll25, ll26]; (clear B D_law_draws hr hk q s1 np hl hp hm e5 e6 e7 e8 e9 e10 e11 nm; omega)), _, rfl, _, rfl, log_ok (by (clear B D_law_draws hr hk q s1 np hl hp e1 e2 e3 e4 e5 e6 e7 e8 e9 e10 e11 nm; omega)) (by (clear B D_law_draws hr hk q s1 np hl hp e1 e2 e3 e4 e5 e6 e7 e8 e9 e10 e11 nm; omega)), _, _, rfl, rfl, small (by simp only [len_app, lit_len, ll0, ll1, ll2, ll3, ll4, ll5, ll6, ll7, ll8, ll9, ll10, ll11, ll12, ll13, ll14, ll15, ll16, ll17, ll18, ll19, ll20, ll21, ll22, ll23, ll24, ll25, ll26]; (clear B D_law_draws hr hk q s1 np hl hp hm e6 e7 e8 e9 e10 e11 nm; omega)), _, _, rfl, rfl, small (by simp only [len_app, lit_len, ll0, ll1, ll2, ll3, ll4, ll5, ll6, ll7, ll8, ll9, ll10, ll11, ll12, ll13, ll14, ll15, ll16, ll17, ll18, ll19, ll20, ll21, ll22, ll23, ll24, ll25, ll26]; (clear B D_law_draws hr hk q s1 np hl hp hm e6 e7 e8 e9 e10 e11 nm; omega)), _, rfl, _, _, _, _, rfl, rfl, SqL.of hp, rfl, _, _, rfl, rfl, (by show (0 : Int) < _; decide), _, rfl, log_ok (by (clear B D_law_draws hr hk q s1 np hl hp e1 e2 e3 e4 hm e5 e6 e7 e8 e9 e10 e11 nm; omega)) (by (clear B D_law_draws hr hk q s1 np hl hp e1 e2 e3 e4 hm e5 e6 e7 e8 e9 e10 e11 nm; omega)), _, _, rfl, rfl, small (by simp only [len_app, lit_len, ll0, ll1, ll2, ll3, ll4, ll5, ll6, ll7, ll8, ll9, ll10, ll11, ll12, ll13, ll14, ll15, ll16, ll17, ll18, ll19, ll20, ll21, ll22, ll23, ll24, ll25, ll26]; (clear B D_law_draws hr hk q s1 np hl hp hm e7 e8 e9 e10 e11 nm; omega)), _, _, rfl, rfl, small (by simp only [len_app, lit_len, ll0, ll1, ll2, ll3, ll4, ll5, ll6, ll7, ll8, ll9, ll10, ll11, ll12, ll13, ll14, ll15, ll16, ll17, ll18, ll19, ll20, ll21, ll22, ll23, ll24, ll25, ll26]; (clear B D_law_draws hr hk q s1 np hl hp hm e7 e8 e9 e10 e11 nm; omega)), _, rfl, _, _, _, _, rfl, rfl, SqL.of hp, rfl, _, _, rfl, rfl, (by show (0 : Int) < _; decide), _, rfl, log_ok (by (clear B D_law_draws hr hk q s1 np hl hp e1 e2 e3 e4 hm e5 e6 e7 e8 e9 e10 e11 nm; omega)) (by (clear B D_law_draws hr hk q s1 np hl hp e1 e2 e3 e4 hm e5 e6 e7 e8 e9 e10 e11 nm; omega)), _, _, rfl, rfl, small (by simp only [len_app, lit_len, ll0, ll1, ll2, ll3, ll4, ll5, ll6, ll7, ll8, ll9, ll10, ll11, ll12, ll13, ll14, ll15, ll16, ll17, ll18, ll19, ll20, ll21, ll22, ll23, ll24, ll25, ll26]; (clear B D_law_draws hr hk q s1 np hl hp hm e8 e9 e10 e11 nm; omega)), _, _, rfl, rfl, small (by simp only [len_app, lit_len, ll0, ll1, ll2, ll3, ll4, ll5, ll6, ll7, ll8, ll9, ll10, ll11, ll12, ll13, ll14, ll15, ll16, ll17, ll18, ll19, ll20, ll21, ll22, ll23, ll24, ll25, ll26]; (clear B D_law_draws hr hk q s1 np hl hp hm e8 e9 e10 e11 nm; omega)), ?_⟩
  refine ⟨_, rfl, _, _, _, _, rfl, rfl, SqL.of hp, rfl, _, _, rfl, rfl, (by show (0 : Int) < _; decide), ?_⟩
  have mk : ∀ l, LightOk 0 40 l → SatOk 40 ⟨nameC cS (k : Int), d0 % 18, 8 + d1 % 20, 8 + d1 % 20 - d2 % 6, 8 + d1 % 20 - d2 % 6 - (if d3 % 14 < 8 + d1 % 20 - d2 % 6 then d3 % 14 else 8 + d1 % 20 - d2 % 6), d4 % 4, d5 % 3, l⟩ := fun l hl =>
    ⟨nm, by constructor <;> (dsimp only; (clear B D_law_draws hr hk q s1 np hp e1 e2 e3 e4 hm e5 e6 e7 e8 e9 e10 e11 nm hl; omega)), by constructor <;> (dsimp only; (clear B D_law_draws hr hk q s1 np hp e1 e2 e3 e4 hm e5 e6 e7 e8 e9 e10 e11 nm hl; omega)), by constructor <;> (dsimp only; (clear B D_law_draws hr hk q s1 np hp e1 e2 e3 e4 e5 e6 e7 e8 e9 e10 e11 nm hl; omega)), by constructor <;> (dsimp only; (clear B D_law_draws hr hk q s1 np hp e1 e2 e3 e4 e5 e6 e7 e8 e9 e10 e11 nm hl; omega)), by constructor <;> (dsimp only; (clear B D_law_draws hr hk q s1 np hp e1 e2 e3 e4 hm e5 e6 e7 e8 e9 e10 e11 nm hl; omega)), by constructor <;> (dsimp only; (clear B D_law_draws hr hk q s1 np hp e1 e2 e3 e4 hm e5 e6 e7 e8 e9 e10 e11 nm hl; omega)), hl⟩
  refine ⟨_, rfl, _, _, _, _, rfl, rfl, SqL.of hp, rfl, _, _, rfl, rfl, (by show (0 : Int) < _; decide), _, _, rfl, rfl, _, rfl, ite2 (fun c1 => ?_) (fun c1 => ?_)⟩
  · have c1' : 0 < d8 % 3 := of_decide_eq_true c1
    refine ⟨_, rfl, _, _, rfl, rfl, small (by simp only [len_app, lit_len, ll0, ll1, ll2, ll3, ll4, ll5, ll6, ll7, ll8, ll9, ll10, ll11, ll12, ll13, ll14, ll15, ll16, ll17, ll18, ll19, ll20, ll21, ll22, ll23, ll24, ll25, ll26]; (clear B D_law_draws hr hk q s1 np hl hp hm e8 e9 e10 e11 nm mk c1 c1'; omega)), _, rfl, _, rfl, log_ok (by (clear B D_law_draws hr hk q s1 np hl hp e1 e2 e3 e4 hm e5 e6 e7 e8 e9 e10 e11 nm mk c1 c1'; omega)) (by (clear B D_law_draws hr hk q s1 np hl hp e1 e2 e3 e4 hm e5 e6 e7 e8 e9 e10 e11 nm mk c1 c1'; omega)), _, _, rfl, rfl, small (by simp only [len_app, lit_len, ll0, ll1, ll2, ll3, ll4, ll5, ll6, ll7, ll8, ll9, ll10, ll11, ll12, ll13, ll14, ll15, ll16, ll17, ll18, ll19, ll20, ll21, ll22, ll23, ll24, ll25, ll26]; (clear B D_law_draws hr hk q s1 np hl hp hm e9 e10 e11 nm mk c1 c1'; omega)), _, _, rfl, rfl, small (by simp only [len_app, lit_len, ll0, ll1, ll2, ll3, ll4, ll5, ll6, ll7, ll8, ll9, ll10, ll11, ll12, ll13, ll14, ll15, ll16, ll17, ll18, ll19, ll20, ll21, ll22, ll23, ll24, ll25, ll26]; (clear B D_law_draws hr hk q s1 np hl hp hm e9 e10 e11 nm mk c1 c1'; omega)), _, rfl, _, _, rfl, rfl, _, rfl, _, _, _, _, rfl, rfl, SqL.of hp, rfl, _, _, rfl, rfl, (by show (0 : Int) < _; decide), _, _, rfl, rfl, _, rfl, log_ok (by (clear B D_law_draws hr hk q s1 np hl hp e1 e2 e3 e4 hm e5 e6 e7 e8 e9 e10 e11 nm mk c1 c1'; omega)) (by (clear B D_law_draws hr hk q s1 np hl hp e1 e2 e3 e4 hm e5 e6 e7 e8 e9 e10 e11 nm mk c1 c1'; omega)), _, _, rfl, rfl, small (by simp only [len_app, lit_len, ll0, ll1, ll2, ll3, ll4, ll5, ll6, ll7, ll8, ll9, ll10, ll11, ll12, ll13, ll14, ll15, ll16, ll17, ll18, ll19, ll20, ll21, ll22, ll23, ll24, ll25, ll26]; (clear B D_law_draws hr hk q s1 np hl hp hm e10 e11 nm mk c1 c1'; omega)), ?_⟩
    refine ⟨_, rfl, _, _, _, _, rfl, rfl, SqL.of hp, rfl, _, _, rfl, rfl, (by show (0 : Int) < _; decide), _, _, rfl, rfl, _, rfl, ite2 (fun c2 => ?_) (fun c2 => ?_)⟩
    · refine ⟨_, rfl, _, _, rfl, rfl, small (by simp only [len_app, lit_len, ll0, ll1, ll2, ll3, ll4, ll5, ll6, ll7, ll8, ll9, ll10, ll11, ll12, ll13, ll14, ll15, ll16, ll17, ll18, ll19, ll20, ll21, ll22, ll23, ll24, ll25, ll26]; (clear B D_law_draws hr hk q s1 np hl hp hm e10 e11 nm mk c1 c1' c2; omega)), _, rfl, _, _, rfl, rfl, _, rfl, log_ok (by (clear B D_law_draws hr hk q s1 np hl hp e1 e2 e3 e4 hm e5 e6 e7 e8 e9 e10 e11 nm mk c1 c1' c2; omega)) (by (clear B D_law_draws hr hk q s1 np hl hp e1 e2 e3 e4 hm e5 e6 e7 e8 e9 e10 e11 nm mk c1 c1' c2; omega)), _, _, rfl, rfl, small (by simp only [len_app, lit_len, ll0, ll1, ll2, ll3, ll4, ll5, ll6, ll7, ll8, ll9, ll10, ll11, ll12, ll13, ll14, ll15, ll16, ll17, ll18, ll19, ll20, ll21, ll22, ll23, ll24, ll25, ll26]; (clear B D_law_draws hr hk q s1 np hl hp hm e11 nm mk c1 c1' c2; omega)), _, _, rfl, rfl, small (by simp only [len_app, lit_len, ll0, ll1, ll2, ll3, ll4, ll5, ll6, ll7, ll8, ll9, ll10, ll11, ll12, ll13, ll14, ll15, ll16, ll17, ll18, ll19, ll20, ll21, ll22, ll23, ll24, ll25, ll26]; (clear B D_law_draws hr hk q s1 np hl hp hm e11 nm mk c1 c1' c2; omega)), _, rfl, _, _, rfl, rfl, _, rfl, _, _, _, _, rfl, rfl, SqL.of hp, rfl, _, _, rfl, rfl, (by show (0 : Int) < _; decide), _, _, rfl, rfl, _, rfl, log_ok (by (clear B D_law_draws hr hk q s1 np hl hp e1 e2 e3 e4 hm e5 e6 e7 e8 e9 e10 e11 nm mk c1 c1' c2; omega)) (by (clear B D_law_draws hr hk q s1 np hl hp e1 e2 e3 e4 hm e5 e6 e7 e8 e9 e10 e11 nm mk c1 c1' c2; omega)), _, _, rfl, rfl, small (by simp only [len_app, lit_len, ll0, ll1, ll2, ll3, ll4, ll5, ll6, ll7, ll8, ll9, ll10, ll11, ll12, ll13, ll14, ll15, ll16, ll17, ll18, ll19, ll20, ll21, ll22, ll23, ll24, ll25, ll26]; (clear B D_law_draws hr hk q s1 np hl hp hm nm mk c1 c1' c2; omega)), ?_⟩
      refine ⟨_, rfl, _, _, rfl, rfl, small (by simp only [len_app, lit_len, ll0, ll1, ll2, ll3, ll4, ll5, ll6, ll7, ll8, ll9, ll10, ll11, ll12, ll13, ll14, ll15, ll16, ll17, ll18, ll19, ll20, ll21, ll22, ll23, ll24, ll25, ll26]; (clear B D_law_draws hr hk q s1 np hl hp hm nm mk c1 c1' c2; omega)), ?_⟩
      refine (congrArg (fun u => Q (.str u) H1) (satL2 _ _ _ _ _ _ _ _ _ _ _)).mpr (q _ H1 s1 (mk _ ⟨?_, ?_, ?_, ?_, ?_, ?_, True.intro⟩) rfl)
      all_goals (dsimp only; (clear B D_law_draws hr hk q s1 np hl hp e1 e2 e3 e4 hm e5 e6 e7 e8 e9 e10 e11 nm mk c1 c1' c2; omega))
    · refine ⟨_, rfl, _, _, rfl, rfl, small (by simp only [len_app, lit_len, ll0, ll1, ll2, ll3, ll4, ll5, ll6, ll7, ll8, ll9, ll10, ll11, ll12, ll13, ll14, ll15, ll16, ll17, ll18, ll19, ll20, ll21, ll22, ll23, ll24, ll25, ll26]; (clear B D_law_draws hr hk q s1 np hl hp hm e10 e11 nm mk c1 c1' c2; omega)), ?_⟩
      refine (congrArg (fun u => Q (.str u) H1) (satL1 _ _ _ _ _ _ _ _ _)).mpr (q _ H1 s1 (mk _ ⟨?_, ?_, ?_, True.intro⟩) rfl)
      all_goals (dsimp only; (clear B D_law_draws hr hk q s1 np hl hp e1 e2 e3 e4 hm e5 e6 e7 e8 e9 e10 e11 nm mk c1 c1' c2; omega))
  · have c1' : ¬ 0 < d8 % 3 := fun z => c1 (decide_eq_true z)
    refine ⟨_, rfl, _, _, _, _, rfl, rfl, SqL.of hp, rfl, _, _, rfl, rfl, (by show (0 : Int) < _; decide), _, _, rfl, rfl, _, rfl, iteF' (decide_eq_false (by show ¬ ((1 : Int) < d8 % 3); (clear B D_law_draws hr hk q s1 np hl hp e1 e2 e3 e4 hm e5 e6 e7 e8 e9 e10 e11 nm mk c1; omega))) ?_⟩
    refine ⟨_, rfl, _, _, rfl, rfl, small (by simp only [len_app, lit_len, ll0, ll1, ll2, ll3, ll4, ll5, ll6, ll7, ll8, ll9, ll10, ll11, ll12, ll13, ll14, ll15, ll16, ll17, ll18, ll19, ll20, ll21, ll22, ll23, ll24, ll25, ll26]; (clear B D_law_draws hr hk q s1 np hl hp hm e8 e9 e10 e11 nm mk c1 c1'; omega)), ?_⟩
    exact (congrArg (fun u => Q (.str u) H1) (satL0 _ _ _ _ _ _ _)).mpr (q _ H1 s1 (mk _ True.intro) rfl)
/-- a recording that some satellite of so many makes -/
structure RecC (n : Nat) (r : RecD) : Prop where
  sat : r.sat < n
  earliest : 0 ≤ r.earliest ∧ r.earliest ≤ 19
  latest : r.earliest ≤ r.latest ∧ r.latest ≤ r.earliest + 2
  length : 1 ≤ r.length ∧ r.length ≤ 5
  size : 0 ≤ r.size ∧ r.size ≤ 8
  energy : 0 ≤ r.energy ∧ r.energy ≤ 6
  worth : 1 ≤ r.worth ∧ r.worth ≤ 9
  rank : 1 ≤ r.rank ∧ r.rank ≤ 3
  deadline : 34 ≤ r.deadline ∧ r.deadline ≤ 40
def spRecC : Sp := fun vs H Q _ => ∃ (c : Int) (k n : Nat), vs = [.int c, .int (k : Int), .int (n : Int)] ∧ k < 10 ∧ 0 < n ∧ n ≤ 3 ∧ ∀ (z : RecD) (H' : Hp), Same H H' → RecC n z → z.name = nameC cR (k : Int) → Q (.str (row (wRecN (nameC cS (z.sat : Int)) z) ++ nl)) H'
set_option maxHeartbeats 16000000 in
theorem d_recC (B : Bt mg) (D_law_draws : DefOk P w K mg base CX0 1 "_law_draws" ["cell", "count"] spDrawsC) (A : At K mg "_law_recording" s__law_recording ["cell", "k", "satellites"]) : DefOk P w K mg base CX0 2 "_law_recording" ["cell", "k", "satellites"] spRecC := by
  refine A.ok sc__law_recording (fun vs H Q E h => ?_) (fun f cdv A outer s H vs Q E hr h => ?_)
  · obtain ⟨c, k, n, rfl, _⟩ := h
    rfl
  obtain ⟨c, k, n, rfl, hk, hn, hn3, q⟩ := h
  refine ⟨_, pss_cons (ps_set (i := 3) sc__law_recording.nd rfl (Or.inl rfl) (pe_f D_law_draws (hr.mono (by omega)) pass0 (pa_cons (pv 0) (pa_cons pe_int pa_nil))))
  (pss_cons (ps_set (i := 4) sc__law_recording.nd rfl (Or.inl rfl) (pe_op op_mod (pe_ix ix_list (pv 3) pe_int (fun _ _ => rfl)) pe_int))
  (pss_cons (ps_set (i := 5) sc__law_recording.nd rfl (Or.inl rfl) (pe_op op_add_str (pe_op op_add_str (pe_op op_add_str (pe_op op_add_str (pe_op op_add_str (pe_op op_add_str pe_str (pe_callTy (call_str_int) (by rfl) B.str (by decide +kernel) (pa_cons (pv 1) pa_nil))) pe_str) (pe_callTy (call_str_int) (by rfl) B.str (by decide +kernel) (pa_cons (pe_op op_mod (pe_ix ix_list (pv 3) pe_int (fun _ _ => rfl)) (pv 2)) pa_nil))) pe_str) (pe_callTy (call_str_int) (by rfl) B.str (by decide +kernel) (pa_cons (pv 4) pa_nil))) pe_str))
  (pss_cons (ps_set (i := 5) sc__law_recording.nd rfl (Or.inl rfl) (pe_op op_add_str (pe_op op_add_str (pe_op op_add_str (pe_op op_add_str (pe_op op_add_str (pv 5) (pe_callTy (call_str_int) (by rfl) B.str (by decide +kernel) (pa_cons (pe_op op_add (pv 4) (pe_op op_mod (pe_ix ix_list (pv 3) pe_int (fun _ _ => rfl)) pe_int)) pa_nil))) pe_str) (pe_callTy (call_str_int) (by rfl) B.str (by decide +kernel) (pa_cons (pe_op op_add pe_int (pe_op op_mod (pe_ix ix_list (pv 3) pe_int (fun _ _ => rfl)) pe_int)) pa_nil))) pe_str) (pe_callTy (call_str_int) (by rfl) B.str (by decide +kernel) (pa_cons (pe_op op_mod (pe_ix ix_list (pv 3) pe_int (fun _ _ => rfl)) pe_int) pa_nil))))
  (pss_cons (ps_set (i := 5) sc__law_recording.nd rfl (Or.inl rfl) (pe_op op_add_str (pe_op op_add_str (pe_op op_add_str (pe_op op_add_str (pe_op op_add_str (pe_op op_add_str (pv 5) pe_str) (pe_callTy (call_str_int) (by rfl) B.str (by decide +kernel) (pa_cons (pe_op op_mod (pe_ix ix_list (pv 3) pe_int (fun _ _ => rfl)) pe_int) pa_nil))) pe_str) (pe_callTy (call_str_int) (by rfl) B.str (by decide +kernel) (pa_cons (pe_op op_add pe_int (pe_op op_mod (pe_ix ix_list (pv 3) pe_int (fun _ _ => rfl)) pe_int)) pa_nil))) pe_str) (pe_callTy (call_str_int) (by rfl) B.str (by decide +kernel) (pa_cons (pe_op op_add pe_int (pe_op op_mod (pe_ix ix_list (pv 3) pe_int (fun _ _ => rfl)) pe_int)) pa_nil))))
  (pss_one (ps_ret (pe_op op_add_str (pe_op op_add_str (pe_op op_add_str (pv 5) pe_str) (pe_callTy (call_str_int) (by rfl) B.str (by decide +kernel) (pa_cons (pe_op op_sub pe_int (pe_op op_mul (pe_op op_mod (pe_ix ix_list (pv 3) pe_int (fun _ _ => rfl)) pe_int) (pe_op op_mod (pe_ix ix_list (pv 3) pe_int (fun _ _ => rfl)) pe_int))) pa_nil))) pe_str)))))))
    , ?_⟩
  refine ⟨_, rfl, c, 9, rfl, by decide, fun p ds H1 s1 np hl hp => ?_⟩
  obtain ⟨d0, d1, d2, d3, d4, d5, d6, d7, d8, rfl⟩ := nine hl
  have m1 : 0 ≤ d0 % (n : Int) := Int.emod_nonneg _ (by (clear B D_law_draws hr hk q s1 np hl hp; omega))
  have m2 : d0 % (n : Int) < (n : Int) := Int.emod_lt_of_pos _ (by (clear B D_law_draws hr hk q s1 np hl hp m1; omega))
  have m3 : 0 ≤ d8 % 4 * (d8 % 3) := Int.mul_nonneg (by (clear B D_law_draws hr hk hn hn3 q s1 np hl hp m1 m2; omega)) (by (clear B D_law_draws hr hk hn hn3 q s1 np hl hp m1 m2; omega))
  have m4 : d8 % 4 * (d8 % 3) ≤ 3 * 2 := Int.mul_le_mul (by (clear B D_law_draws hr hk hn hn3 q s1 np hl hp m1 m2 m3; omega)) (by (clear B D_law_draws hr hk hn hn3 q s1 np hl hp m1 m2 m3; omega)) (by (clear B D_law_draws hr hk hn hn3 q s1 np hl hp m1 m2 m3; omega)) (by decide)
  have e1 := tos_len (n := (k : Int)) (by omega) (by omega)
  have e2 := tos_len (n := d0 % (n : Int)) m1 (by (clear B D_law_draws hr hk q s1 np hl hp m1 m3 m4 e1; omega))
  have e3 := tos_len (n := d1 % 20) (by (clear B D_law_draws hr hk hn hn3 q s1 np hl hp m1 m2 m3 m4 e1 e2; omega)) (by (clear B D_law_draws hr hk hn hn3 q s1 np hl hp m1 m2 m3 m4 e1 e2; omega))
  have e4 := tos_len (n := d1 % 20 + d2 % 3) (by (clear B D_law_draws hr hk hn hn3 q s1 np hl hp m1 m2 m3 m4 e1 e2 e3; omega)) (by (clear B D_law_draws hr hk hn hn3 q s1 np hl hp m1 m2 m3 m4 e1 e2 e3; omega))
  have e5 := tos_len (n := 1 + d3 % 5) (by (clear B D_law_draws hr hk hn hn3 q s1 np hl hp m1 m2 m3 m4 e1 e2 e3 e4; omega)) (by (clear B D_law_draws hr hk hn hn3 q s1 np hl hp m1 m2 m3 m4 e1 e2 e3 e4; omega))
  have e6 := tos_len (n := d4 % 9) (by (clear B D_law_draws hr hk hn hn3 q s1 np hl hp m1 m2 m3 m4 e1 e2 e3 e4 e5; omega)) (by (clear B D_law_draws hr hk hn hn3 q s1 np hl hp m1 m2 m3 m4 e1 e2 e3 e4 e5; omega))
  have e7 := tos_len (n := d5 % 7) (by (clear B D_law_draws hr hk hn hn3 q s1 np hl hp m1 m2 m3 m4 e1 e2 e3 e4 e5 e6; omega)) (by (clear B D_law_draws hr hk hn hn3 q s1 np hl hp m1 m2 m3 m4 e1 e2 e3 e4 e5 e6; omega))
  have e8 := tos_len (n := 1 + d6 % 9) (by (clear B D_law_draws hr hk hn hn3 q s1 np hl hp m1 m2 m3 m4 e1 e2 e3 e4 e5 e6 e7; omega)) (by (clear B D_law_draws hr hk hn hn3 q s1 np hl hp m1 m2 m3 m4 e1 e2 e3 e4 e5 e6 e7; omega))
  have e9 := tos_len (n := 1 + d7 % 3) (by (clear B D_law_draws hr hk hn hn3 q s1 np hl hp m1 m2 m3 m4 e1 e2 e3 e4 e5 e6 e7 e8; omega)) (by (clear B D_law_draws hr hk hn hn3 q s1 np hl hp m1 m2 m3 m4 e1 e2 e3 e4 e5 e6 e7 e8; omega))
  have e10 := tos_len (n := 40 - d8 % 4 * (d8 % 3)) (by (clear B D_law_draws hr hk hn hn3 q s1 np hl hp m1 m2 e1 e2 e3 e4 e5 e6 e7 e8 e9; omega)) (by (clear B D_law_draws hr hk hn hn3 q s1 np hl hp m1 m2 e1 e2 e3 e4 e5 e6 e7 e8 e9; omega))
  refine ⟨_, rfl, _, _, _, _, rfl, rfl, SqL.of hp, rfl, _, _, rfl, rfl, (by show (0 : Int) < _; decide), ?_⟩
  refine ⟨_, rfl, _, rfl, log_ok (by omega) (by omega), _, _, rfl, rfl, small (by simp only [len_app, lit_len, ll0, ll1, ll2, ll3, ll4, ll5, ll6, ll7, ll8, ll9, ll10, ll11, ll12, ll13, ll14, ll15, ll16, ll17, ll18, ll19, ll20, ll21, ll22, ll23, ll24, ll25, ll26]; (clear B D_law_draws hr hk hn hn3 q s1 np hl hp m1 m2 m3 m4 e2 e3 e4 e5 e6 e7 e8 e9 e10; omega)), _, _, rfl, rfl, small (by simp only [len_app, lit_len, ll0, ll1, ll2, ll3, ll4, ll5, ll6, ll7, ll8, ll9, ll10, ll11, ll12, ll13, ll14, ll15, ll16, ll17, ll18, ll19, ll20, ll21, ll22, ll23, ll24, ll25, ll26]; (clear B D_law_draws hr hk hn hn3 q s1 np hl hp m1 m2 m3 m4 e2 e3 e4 e5 e6 e7 e8 e9 e10; omega)), _, rfl, _, _, _, _, rfl, rfl, SqL.of hp, rfl, _, rfl, _, _, rfl, rfl, (by show (0 : Int) < (n : Int); (clear B D_law_draws hr hk q s1 np hl hp m1 m2 m3 m4 e1 e2 e3 e4 e5 e6 e7 e8 e9 e10; omega)), _, rfl, log_ok m1 (by (clear B D_law_draws hr hk q s1 np hl hp m1 m3 m4 e1 e2 e3 e4 e5 e6 e7 e8 e9 e10; omega)), _, _, rfl, rfl, small (by simp only [len_app, lit_len, ll0, ll1, ll2, ll3, ll4, ll5, ll6, ll7, ll8, ll9, ll10, ll11, ll12, ll13, ll14, ll15, ll16, ll17, ll18, ll19, ll20, ll21, ll22, ll23, ll24, ll25, ll26]; (clear B D_law_draws hr hk hn hn3 q s1 np hl hp m1 m2 m3 m4 e3 e4 e5 e6 e7 e8 e9 e10; omega)), _, _, rfl, rfl, small (by simp only [len_app, lit_len, ll0, ll1, ll2, ll3, ll4, ll5, ll6, ll7, ll8, ll9, ll10, ll11, ll12, ll13, ll14, ll15, ll16, ll17, ll18, ll19, ll20, ll21, ll22, ll23, ll24, ll25, ll26]; (clear B D_law_draws hr hk hn hn3 q s1 np hl hp m1 m2 m3 m4 e3 e4 e5 e6 e7 e8 e9 e10; omega)), _, rfl, _, rfl, log_ok (by (clear B D_law_draws hr hk hn hn3 q s1 np hl hp m1 m2 m3 m4 e1 e2 e3 e4 e5 e6 e7 e8 e9 e10; omega)) (by (clear B D_law_draws hr hk hn hn3 q s1 np hl hp m1 m2 m3 m4 e1 e2 e3 e4 e5 e6 e7 e8 e9 e10; omega)), _, _, rfl, rfl, small (by simp only [len_app, lit_len, ll0, ll1, ll2, ll3, ll4, ll5, ll6, ll7, ll8, ll9, ll10, ll11, ll12, ll13, ll14, ll15, ll16, ll17, ll18, ll19, ll20, ll21, ll22, ll23, ll24, ll25, ll26]; (clear B D_law_draws hr hk hn hn3 q s1 np hl hp m1 m2 m3 m4 e4 e5 e6 e7 e8 e9 e10; omega)), _, _, rfl, rfl, small (by simp only [len_app, lit_len, ll0, ll1, ll2, ll3, ll4, ll5, ll6, ll7, ll8, ll9, ll10, ll11, ll12, ll13, ll14, ll15, ll16, ll17, ll18, ll19, ll20, ll21, ll22, ll23, ll24, ll25, ll26]; (clear B D_law_draws hr hk hn hn3 q s1 np hl hp m1 m2 m3 m4 e4 e5 e6 e7 e8 e9 e10; omega)), ?_⟩
  refine ⟨_, rfl, _, rfl, _, rfl, _, _, _, _, rfl, rfl, SqL.of hp, rfl, _, _, rfl, rfl, (by show (0 : Int) < _; decide), _, _, rfl, rfl, _, rfl, log_ok (by (clear B D_law_draws hr hk hn hn3 q s1 np hl hp m1 m2 m3 m4 e1 e2 e3 e4 e5 e6 e7 e8 e9 e10; omega)) (by (clear B D_law_draws hr hk hn hn3 q s1 np hl hp m1 m2 m3 m4 e1 e2 e3 e4 e5 e6 e7 e8 e9 e10; omega)), _, _, rfl, rfl, small (by simp only [len_app, lit_len, ll0, ll1, ll2, ll3, ll4, ll5, ll6, ll7, ll8, ll9, ll10, ll11, ll12, ll13, ll14, ll15, ll16, ll17, ll18, ll19, ll20, ll21, ll22, ll23, ll24, ll25, ll26]; (clear B D_law_draws hr hk hn hn3 q s1 np hl hp m1 m2 m3 m4 e5 e6 e7 e8 e9 e10; omega)), _, _, rfl, rfl, small (by simp only [len_app, lit_len, ll0, ll1, ll2, ll3, ll4, ll5, ll6, ll7, ll8, ll9, ll10, ll11, ll12, ll13, ll14, ll15, ll16, ll17, ll18, ll19, ll20, ll21, ll22, ll23, ll24, ll25, ll26]; (clear B D_law_draws hr hk hn hn3 q s1 np hl hp m1 m2 m3 m4 e5 e6 e7 e8 e9 e10; omega)), _, rfl, _, _, _, _, rfl, rfl, SqL.of hp, rfl, _, _, rfl, rfl, (by show (0 : Int) < _; decide), _, _, rfl, rfl, _, rfl, log_ok (by (clear B D_law_draws hr hk hn hn3 q s1 np hl hp m1 m2 m3 m4 e1 e2 e3 e4 e5 e6 e7 e8 e9 e10; omega)) (by (clear B D_law_draws hr hk hn hn3 q s1 np hl hp m1 m2 m3 m4 e1 e2 e3 e4 e5 e6 e7 e8 e9 e10; omega)), _, _, rfl, rfl, small (by simp only [len_app, lit_len, ll0, ll1, ll2, ll3, ll4, ll5, ll6, ll7, ll8, ll9, ll10, ll11, ll12, ll13, ll14, ll15, ll16, ll17, ll18, ll19, ll20, ll21, ll22, ll23, ll24, ll25, ll26]; (clear B D_law_draws hr hk hn hn3 q s1 np hl hp m1 m2 m3 m4 e6 e7 e8 e9 e10; omega)), _, _, rfl, rfl, small (by simp only [len_app, lit_len, ll0, ll1, ll2, ll3, ll4, ll5, ll6, ll7, ll8, ll9, ll10, ll11, ll12, ll13, ll14, ll15, ll16, ll17, ll18, ll19, ll20, ll21, ll22, ll23, ll24, ll25, ll26]; (clear B D_law_draws hr hk hn hn3 q s1 np hl hp m1 m2 m3 m4 e6 e7 e8 e9 e10; omega)), _, rfl, _, _, _, _, rfl, rfl, SqL.of hp, rfl, _, _, rfl, rfl, (by show (0 : Int) < _; decide), _, rfl, log_ok (by (clear B D_law_draws hr hk hn hn3 q s1 np hl hp m1 m2 m3 m4 e1 e2 e3 e4 e5 e6 e7 e8 e9 e10; omega)) (by (clear B D_law_draws hr hk hn hn3 q s1 np hl hp m1 m2 m3 m4 e1 e2 e3 e4 e5 e6 e7 e8 e9 e10; omega)), _, _, rfl, rfl, small (by simp only [len_app, lit_len, ll0, ll1, ll2, ll3, ll4, ll5, ll6, ll7, ll8, ll9, ll10, ll11, ll12, ll13, ll14, ll15, ll16, ll17, ll18, ll19, ll20, ll21, ll22, ll23, ll24, ll25, ll26]; (clear B D_law_draws hr hk hn hn3 q s1 np hl hp m1 m2 m3 m4 e7 e8 e9 e10; omega)), ?_⟩
  refine ⟨_, rfl, _, _, rfl, rfl, small (by simp only [len_app, lit_len, ll0, ll1, ll2, ll3, ll4, ll5, ll6, ll7, ll8, ll9, ll10, ll11, ll12, ll13, ll14, ll15, ll16, ll17, ll18, ll19, ll20, ll21, ll22, ll23, ll24, ll25, ll26]; (clear B D_law_draws hr hk hn hn3 q s1 np hl hp m1 m2 m3 m4 e7 e8 e9 e10; omega)), _, rfl, _, _, _, _, rfl, rfl, SqL.of hp, rfl, _, _, rfl, rfl, (by show (0 : Int) < _; decide), _, rfl, log_ok (by (clear B D_law_draws hr hk hn hn3 q s1 np hl hp m1 m2 m3 m4 e1 e2 e3 e4 e5 e6 e7 e8 e9 e10; omega)) (by (clear B D_law_draws hr hk hn hn3 q s1 np hl hp m1 m2 m3 m4 e1 e2 e3 e4 e5 e6 e7 e8 e9 e10; omega)), _, _, rfl, rfl, small (by simp only [len_app, lit_len, ll0, ll1, ll2, ll3, ll4, ll5, ll6, ll7, ll8, ll9, ll10, ll11, ll12, ll13, ll14, ll15, ll16, ll17, ll18, ll19, ll20, ll21, ll22, ll23, ll24, ll25, ll26]; (clear B D_law_draws hr hk hn hn3 q s1 np hl hp m1 m2 m3 m4 e8 e9 e10; omega)), _, _, rfl, rfl, small (by simp only [len_app, lit_len, ll0, ll1, ll2, ll3, ll4, ll5, ll6, ll7, ll8, ll9, ll10, ll11, ll12, ll13, ll14, ll15, ll16, ll17, ll18, ll19, ll20, ll21, ll22, ll23, ll24, ll25, ll26]; (clear B D_law_draws hr hk hn hn3 q s1 np hl hp m1 m2 m3 m4 e8 e9 e10; omega)), _, rfl, _, _, _, _, rfl, rfl, SqL.of hp, rfl, _, _, rfl, rfl, (by show (0 : Int) < _; decide), _, _, rfl, rfl, _, rfl, log_ok (by (clear B D_law_draws hr hk hn hn3 q s1 np hl hp m1 m2 m3 m4 e1 e2 e3 e4 e5 e6 e7 e8 e9 e10; omega)) (by (clear B D_law_draws hr hk hn hn3 q s1 np hl hp m1 m2 m3 m4 e1 e2 e3 e4 e5 e6 e7 e8 e9 e10; omega)), _, _, rfl, rfl, small (by simp only [len_app, lit_len, ll0, ll1, ll2, ll3, ll4, ll5, ll6, ll7, ll8, ll9, ll10, ll11, ll12, ll13, ll14, ll15, ll16, ll17, ll18, ll19, ll20, ll21, ll22, ll23, ll24, ll25, ll26]; (clear B D_law_draws hr hk hn hn3 q s1 np hl hp m1 m2 m3 m4 e9 e10; omega)), _, _, rfl, rfl, small (by simp only [len_app, lit_len, ll0, ll1, ll2, ll3, ll4, ll5, ll6, ll7, ll8, ll9, ll10, ll11, ll12, ll13, ll14, ll15, ll16, ll17, ll18, ll19, ll20, ll21, ll22, ll23, ll24, ll25, ll26]; (clear B D_law_draws hr hk hn hn3 q s1 np hl hp m1 m2 m3 m4 e9 e10; omega)), _, rfl, _, _, _, _, rfl, rfl, SqL.of hp, rfl, _, _, rfl, rfl, (by show (0 : Int) < _; decide), _, _, rfl, rfl, _, rfl, log_ok (by (clear B D_law_draws hr hk hn hn3 q s1 np hl hp m1 m2 m3 m4 e1 e2 e3 e4 e5 e6 e7 e8 e9 e10; omega)) (by (clear B D_law_draws hr hk hn hn3 q s1 np hl hp m1 m2 m3 m4 e1 e2 e3 e4 e5 e6 e7 e8 e9 e10; omega)), _, _, rfl, rfl, small (by simp only [len_app, lit_len, ll0, ll1, ll2, ll3, ll4, ll5, ll6, ll7, ll8, ll9, ll10, ll11, ll12, ll13, ll14, ll15, ll16, ll17, ll18, ll19, ll20, ll21, ll22, ll23, ll24, ll25, ll26]; (clear B D_law_draws hr hk hn hn3 q s1 np hl hp m1 m2 m3 m4 e10; omega)), ?_⟩
  refine ⟨_, rfl, _, _, rfl, rfl, small (by simp only [len_app, lit_len, ll0, ll1, ll2, ll3, ll4, ll5, ll6, ll7, ll8, ll9, ll10, ll11, ll12, ll13, ll14, ll15, ll16, ll17, ll18, ll19, ll20, ll21, ll22, ll23, ll24, ll25, ll26]; (clear B D_law_draws hr hk hn hn3 q s1 np hl hp m1 m2 m3 m4 e10; omega)), _, rfl, _, _, _, _, rfl, rfl, SqL.of hp, rfl, _, _, rfl, rfl, (by show (0 : Int) < _; decide), _, rfl, _, _, _, _, rfl, rfl, SqL.of hp, rfl, _, _, rfl, rfl, (by show (0 : Int) < _; decide), _, _, rfl, rfl, .inl ⟨by (clear B D_law_draws hr hk hn hn3 q s1 np hl hp m1 m2 m3 m4 e1 e2 e3 e4 e5 e6 e7 e8 e9 e10; omega), by (clear B D_law_draws hr hk hn hn3 q s1 np hl hp m1 m2 m3 m4 e1 e2 e3 e4 e5 e6 e7 e8 e9 e10; omega)⟩, _, _, rfl, rfl, _, rfl, log_ok (by (clear B D_law_draws hr hk hn hn3 q s1 np hl hp m1 m2 e1 e2 e3 e4 e5 e6 e7 e8 e9 e10; omega)) (by (clear B D_law_draws hr hk hn hn3 q s1 np hl hp m1 m2 e1 e2 e3 e4 e5 e6 e7 e8 e9 e10; omega)), _, _, rfl, rfl, small (by simp only [len_app, lit_len, ll0, ll1, ll2, ll3, ll4, ll5, ll6, ll7, ll8, ll9, ll10, ll11, ll12, ll13, ll14, ll15, ll16, ll17, ll18, ll19, ll20, ll21, ll22, ll23, ll24, ll25, ll26]; (clear B D_law_draws hr hk hn hn3 q s1 np hl hp m1 m2 m3 m4; omega)), _, _, rfl, rfl, small (by simp only [len_app, lit_len, ll0, ll1, ll2, ll3, ll4, ll5, ll6, ll7, ll8, ll9, ll10, ll11, ll12, ll13, ll14, ll15, ll16, ll17, ll18, ll19, ll20, ll21, ll22, ll23, ll24, ll25, ll26]; (clear B D_law_draws hr hk hn hn3 q s1 np hl hp m1 m2 m3 m4; omega)), ?_⟩
  refine (congrArg (fun u => Q (.str u) H1) (row_recC _ _ _ _ _ _ _ _ _ _)).mpr ?_
  have e : d0 % (n : Int) = (((d0 % (n : Int)).toNat : Nat) : Int) := by (clear B D_law_draws hr hk hn hn3 q s1 np hl hp m2 m3 m4 e1 e2 e3 e4 e5 e6 e7 e8 e9 e10; omega)
  have g := q ⟨nameC cR (k : Int), (d0 % (n : Int)).toNat, d1 % 20, d1 % 20 + d2 % 3, 1 + d3 % 5, d4 % 9, d5 % 7, 1 + d6 % 9, 1 + d7 % 3, 40 - d8 % 4 * (d8 % 3)⟩ H1 s1 ⟨by dsimp only; (clear B D_law_draws hr hk hn hn3 q s1 np hl hp m1 m3 m4 e1 e2 e3 e4 e5 e6 e7 e8 e9 e10; omega), by constructor <;> (dsimp only; (clear B D_law_draws hr hk hn hn3 q s1 np hl hp m1 m2 m3 m4 e1 e2 e3 e4 e5 e6 e7 e8 e9 e10 e; omega)), by constructor <;> (dsimp only; (clear B D_law_draws hr hk hn hn3 q s1 np hl hp m1 m2 m3 m4 e1 e2 e3 e4 e5 e6 e7 e8 e9 e10 e; omega)), by constructor <;> (dsimp only; (clear B D_law_draws hr hk hn hn3 q s1 np hl hp m1 m2 m3 m4 e1 e2 e3 e4 e5 e6 e7 e8 e9 e10 e; omega)), by constructor <;> (dsimp only; (clear B D_law_draws hr hk hn hn3 q s1 np hl hp m1 m2 m3 m4 e1 e2 e3 e4 e5 e6 e7 e8 e9 e10 e; omega)), by constructor <;> (dsimp only; (clear B D_law_draws hr hk hn hn3 q s1 np hl hp m1 m2 m3 m4 e1 e2 e3 e4 e5 e6 e7 e8 e9 e10 e; omega)), by constructor <;> (dsimp only; (clear B D_law_draws hr hk hn hn3 q s1 np hl hp m1 m2 m3 m4 e1 e2 e3 e4 e5 e6 e7 e8 e9 e10 e; omega)), by constructor <;> (dsimp only; (clear B D_law_draws hr hk hn hn3 q s1 np hl hp m1 m2 m3 m4 e1 e2 e3 e4 e5 e6 e7 e8 e9 e10 e; omega)), by constructor <;> (dsimp only; (clear B D_law_draws hr hk hn hn3 q s1 np hl hp m1 m2 e1 e2 e3 e4 e5 e6 e7 e8 e9 e10 e; omega))⟩ rfl
  have g2 : Q (.str (row (wRecN (nameC cS (((d0 % (n : Int)).toNat : Nat) : Int)) ⟨nameC cR (k : Int), (d0 % (n : Int)).toNat, d1 % 20, d1 % 20 + d2 % 3, 1 + d3 % 5, d4 % 9, d5 % 7, 1 + d6 % 9, 1 + d7 % 3, 40 - d8 % 4 * (d8 % 3)⟩) ++ nl)) H1 := g
  rw [← e] at g2
  exact g2
structure PasC (n m : Nat) (r : PasD) : Prop where
  sat : r.sat < n
  sta : r.sta < m
  first : 5 ≤ r.first ∧ r.first ≤ 31
  fin : r.first + 1 ≤ r.fin ∧ r.fin ≤ r.first + 6
  room : 0 ≤ r.room ∧ r.room ≤ 15
  energy : 0 ≤ r.energy ∧ r.energy ≤ 4
  fee : 0 ≤ r.fee ∧ r.fee ≤ 5
def spPasC : Sp := fun vs H Q _ => ∃ (c : Int) (k n m : Nat), vs = [.int c, .int (k : Int), .int (n : Int), .int (m : Int)] ∧ k < 10 ∧ 0 < n ∧ n ≤ 3 ∧ 0 < m ∧ m ≤ 3 ∧
  ∀ (z : PasD) (H' : Hp), Same H H' → PasC n m z → z.name = nameC cP (k : Int) → Q (.str (row (wPasN (nameC cS (z.sat : Int)) (nameC cT (z.sta : Int)) z) ++ nl)) H'
set_option maxHeartbeats 16000000 in
theorem d_pasC (B : Bt mg) (D_law_draws : DefOk P w K mg base CX0 1 "_law_draws" ["cell", "count"] spDrawsC) (A : At K mg "_law_pass" s__law_pass ["cell", "k", "satellites", "stations"]) : DefOk P w K mg base CX0 2 "_law_pass" ["cell", "k", "satellites", "stations"] spPasC := by
  refine A.ok sc__law_pass (fun vs H Q E h => ?_) (fun f cdv A outer s H vs Q E hr h => ?_)
  · obtain ⟨c, k, n, m, rfl, _⟩ := h
    rfl
  obtain ⟨c, k, n, m, rfl, hk, hn, hn3, hm, hm3, q⟩ := h
  refine ⟨_, pss_cons (ps_set (i := 4) sc__law_pass.nd rfl (Or.inl rfl) (pe_f D_law_draws (hr.mono (by omega)) pass0 (pa_cons (pv 0) (pa_cons pe_int pa_nil))))
  (pss_cons (ps_set (i := 5) sc__law_pass.nd rfl (Or.inl rfl) (pe_op op_add pe_int (pe_op op_mod (pe_ix ix_list (pv 4) pe_int (fun _ _ => rfl)) pe_int)))
  (pss_cons (ps_set (i := 6) sc__law_pass.nd rfl (Or.inl rfl) (pe_op op_add_str (pe_op op_add_str (pe_op op_add_str (pe_op op_add_str (pe_op op_add_str (pe_op op_add_str pe_str (pe_callTy (call_str_int) (by rfl) B.str (by decide +kernel) (pa_cons (pv 1) pa_nil))) pe_str) (pe_callTy (call_str_int) (by rfl) B.str (by decide +kernel) (pa_cons (pe_op op_mod (pe_ix ix_list (pv 4) pe_int (fun _ _ => rfl)) (pv 2)) pa_nil))) pe_str) (pe_callTy (call_str_int) (by rfl) B.str (by decide +kernel) (pa_cons (pe_op op_mod (pe_ix ix_list (pv 4) pe_int (fun _ _ => rfl)) (pv 3)) pa_nil))) pe_str))
  (pss_cons (ps_set (i := 6) sc__law_pass.nd rfl (Or.inl rfl) (pe_op op_add_str (pe_op op_add_str (pe_op op_add_str (pe_op op_add_str (pe_op op_add_str (pv 6) (pe_callTy (call_str_int) (by rfl) B.str (by decide +kernel) (pa_cons (pv 5) pa_nil))) pe_str) (pe_callTy (call_str_int) (by rfl) B.str (by decide +kernel) (pa_cons (pe_op op_add (pe_op op_add (pv 5) pe_int) (pe_op op_mod (pe_ix ix_list (pv 4) pe_int (fun _ _ => rfl)) pe_int)) pa_nil))) pe_str) (pe_callTy (call_str_int) (by rfl) B.str (by decide +kernel) (pa_cons (pe_op op_mod (pe_ix ix_list (pv 4) pe_int (fun _ _ => rfl)) pe_int) pa_nil))))
  (pss_one (ps_ret (pe_op op_add_str (pe_op op_add_str (pe_op op_add_str (pe_op op_add_str (pe_op op_add_str (pv 6) pe_str) (pe_callTy (call_str_int) (by rfl) B.str (by decide +kernel) (pa_cons (pe_op op_mod (pe_ix ix_list (pv 4) pe_int (fun _ _ => rfl)) pe_int) pa_nil))) pe_str) (pe_callTy (call_str_int) (by rfl) B.str (by decide +kernel) (pa_cons (pe_op op_mod (pe_ix ix_list (pv 4) pe_int (fun _ _ => rfl)) pe_int) pa_nil))) pe_str))))))
    , ?_⟩
  refine ⟨_, rfl, c, 7, rfl, by decide, fun p ds H1 s1 np hl hp => ?_⟩
  obtain ⟨d0, d1, d2, d3, d4, d5, d6, rfl⟩ := seven hl
  have m1 : 0 ≤ d0 % (n : Int) := Int.emod_nonneg _ (by (clear B D_law_draws hr hk hm hm3 q s1 np hl hp; omega))
  have m2 : d0 % (n : Int) < (n : Int) := Int.emod_lt_of_pos _ (by (clear B D_law_draws hr hk hm hm3 q s1 np hl hp m1; omega))
  have m3 : 0 ≤ d1 % (m : Int) := Int.emod_nonneg _ (by (clear B D_law_draws hr hk hn hn3 q s1 np hl hp m1 m2; omega))
  have m4 : d1 % (m : Int) < (m : Int) := Int.emod_lt_of_pos _ (by (clear B D_law_draws hr hk hn hn3 q s1 np hl hp m1 m2 m3; omega))
  have e1 := tos_len (n := (k : Int)) (by omega) (by omega)
  have e2 := tos_len (n := d0 % (n : Int)) m1 (by (clear B D_law_draws hr hk hm hm3 q s1 np hl hp m1 m3 m4 e1; omega))
  have e3 := tos_len (n := d1 % (m : Int)) m3 (by (clear B D_law_draws hr hk hn hn3 q s1 np hl hp m1 m2 m3 e1 e2; omega))
  have e4 := tos_len (n := 5 + d2 % 27) (by (clear B D_law_draws hr hk hn hn3 hm hm3 q s1 np hl hp m1 m2 m3 m4 e1 e2 e3; omega)) (by (clear B D_law_draws hr hk hn hn3 hm hm3 q s1 np hl hp m1 m2 m3 m4 e1 e2 e3; omega))
  have e5 := tos_len (n := 5 + d2 % 27 + 1 + d3 % 6) (by (clear B D_law_draws hr hk hn hn3 hm hm3 q s1 np hl hp m1 m2 m3 m4 e1 e2 e3 e4; omega)) (by (clear B D_law_draws hr hk hn hn3 hm hm3 q s1 np hl hp m1 m2 m3 m4 e1 e2 e3 e4; omega))
  have e6 := tos_len (n := d4 % 16) (by (clear B D_law_draws hr hk hn hn3 hm hm3 q s1 np hl hp m1 m2 m3 m4 e1 e2 e3 e4 e5; omega)) (by (clear B D_law_draws hr hk hn hn3 hm hm3 q s1 np hl hp m1 m2 m3 m4 e1 e2 e3 e4 e5; omega))
  have e7 := tos_len (n := d5 % 5) (by (clear B D_law_draws hr hk hn hn3 hm hm3 q s1 np hl hp m1 m2 m3 m4 e1 e2 e3 e4 e5 e6; omega)) (by (clear B D_law_draws hr hk hn hn3 hm hm3 q s1 np hl hp m1 m2 m3 m4 e1 e2 e3 e4 e5 e6; omega))
  have e8 := tos_len (n := d6 % 6) (by (clear B D_law_draws hr hk hn hn3 hm hm3 q s1 np hl hp m1 m2 m3 m4 e1 e2 e3 e4 e5 e6 e7; omega)) (by (clear B D_law_draws hr hk hn hn3 hm hm3 q s1 np hl hp m1 m2 m3 m4 e1 e2 e3 e4 e5 e6 e7; omega))
  refine ⟨_, rfl, _, _, _, _, rfl, rfl, SqL.of hp, rfl, _, _, rfl, rfl, (by show (0 : Int) < _; decide), _, _, rfl, rfl, ?_⟩
  refine ⟨_, rfl, _, rfl, log_ok (by omega) (by omega), _, _, rfl, rfl, small (by simp only [len_app, lit_len, ll0, ll1, ll2, ll3, ll4, ll5, ll6, ll7, ll8, ll9, ll10, ll11, ll12, ll13, ll14, ll15, ll16, ll17, ll18, ll19, ll20, ll21, ll22, ll23, ll24, ll25, ll26]; (clear B D_law_draws hr hk hn hn3 hm hm3 q s1 np hl hp m1 m2 m3 m4 e2 e3 e4 e5 e6 e7 e8; omega)), _, _, rfl, rfl, small (by simp only [len_app, lit_len, ll0, ll1, ll2, ll3, ll4, ll5, ll6, ll7, ll8, ll9, ll10, ll11, ll12, ll13, ll14, ll15, ll16, ll17, ll18, ll19, ll20, ll21, ll22, ll23, ll24, ll25, ll26]; (clear B D_law_draws hr hk hn hn3 hm hm3 q s1 np hl hp m1 m2 m3 m4 e2 e3 e4 e5 e6 e7 e8; omega)), _, rfl, _, _, _, _, rfl, rfl, SqL.of hp, rfl, _, rfl, _, _, rfl, rfl, (by show (0 : Int) < (n : Int); omega), _, rfl, log_ok m1 (by (clear B D_law_draws hr hk hm hm3 q s1 np hl hp m1 m3 m4 e1 e2 e3 e4 e5 e6 e7 e8; omega)), _, _, rfl, rfl, small (by simp only [len_app, lit_len, ll0, ll1, ll2, ll3, ll4, ll5, ll6, ll7, ll8, ll9, ll10, ll11, ll12, ll13, ll14, ll15, ll16, ll17, ll18, ll19, ll20, ll21, ll22, ll23, ll24, ll25, ll26]; (clear B D_law_draws hr hk hn hn3 hm hm3 q s1 np hl hp m1 m2 m3 m4 e3 e4 e5 e6 e7 e8; omega)), _, _, rfl, rfl, small (by simp only [len_app, lit_len, ll0, ll1, ll2, ll3, ll4, ll5, ll6, ll7, ll8, ll9, ll10, ll11, ll12, ll13, ll14, ll15, ll16, ll17, ll18, ll19, ll20, ll21, ll22, ll23, ll24, ll25, ll26]; (clear B D_law_draws hr hk hn hn3 hm hm3 q s1 np hl hp m1 m2 m3 m4 e3 e4 e5 e6 e7 e8; omega)), _, rfl, _, _, _, _, rfl, rfl, SqL.of hp, rfl, _, rfl, _, _, rfl, rfl, (by show (0 : Int) < (m : Int); (clear B D_law_draws hr hk hn hn3 q s1 np hl hp m1 m2 m3 m4 e1 e2 e3 e4 e5 e6 e7 e8; omega)), _, rfl, log_ok m3 (by (clear B D_law_draws hr hk hn hn3 q s1 np hl hp m1 m2 m3 e1 e2 e3 e4 e5 e6 e7 e8; omega)), _, _, rfl, rfl, small (by simp only [len_app, lit_len, ll0, ll1, ll2, ll3, ll4, ll5, ll6, ll7, ll8, ll9, ll10, ll11, ll12, ll13, ll14, ll15, ll16, ll17, ll18, ll19, ll20, ll21, ll22, ll23, ll24, ll25, ll26]; (clear B D_law_draws hr hk hn hn3 hm hm3 q s1 np hl hp m1 m2 m3 m4 e4 e5 e6 e7 e8; omega)), _, _, rfl, rfl, small (by simp only [len_app, lit_len, ll0, ll1, ll2, ll3, ll4, ll5, ll6, ll7, ll8, ll9, ll10, ll11, ll12, ll13, ll14, ll15, ll16, ll17, ll18, ll19, ll20, ll21, ll22, ll23, ll24, ll25, ll26]; (clear B D_law_draws hr hk hn hn3 hm hm3 q s1 np hl hp m1 m2 m3 m4 e4 e5 e6 e7 e8; omega)), ?_⟩
  refine ⟨_, rfl, _, rfl, _, rfl, log_ok (by (clear B D_law_draws hr hk hn hn3 hm hm3 q s1 np hl hp m1 m2 m3 m4 e1 e2 e3 e4 e5 e6 e7 e8; omega)) (by (clear B D_law_draws hr hk hn hn3 hm hm3 q s1 np hl hp m1 m2 m3 m4 e1 e2 e3 e4 e5 e6 e7 e8; omega)), _, _, rfl, rfl, small (by simp only [len_app, lit_len, ll0, ll1, ll2, ll3, ll4, ll5, ll6, ll7, ll8, ll9, ll10, ll11, ll12, ll13, ll14, ll15, ll16, ll17, ll18, ll19, ll20, ll21, ll22, ll23, ll24, ll25, ll26]; (clear B D_law_draws hr hk hn hn3 hm hm3 q s1 np hl hp m1 m2 m3 m4 e5 e6 e7 e8; omega)), _, _, rfl, rfl, small (by simp only [len_app, lit_len, ll0, ll1, ll2, ll3, ll4, ll5, ll6, ll7, ll8, ll9, ll10, ll11, ll12, ll13, ll14, ll15, ll16, ll17, ll18, ll19, ll20, ll21, ll22, ll23, ll24, ll25, ll26]; (clear B D_law_draws hr hk hn hn3 hm hm3 q s1 np hl hp m1 m2 m3 m4 e5 e6 e7 e8; omega)), _, rfl, _, _, rfl, rfl, _, rfl, _, _, _, _, rfl, rfl, SqL.of hp, rfl, _, _, rfl, rfl, (by show (0 : Int) < _; decide), _, _, rfl, rfl, _, rfl, log_ok (by (clear B D_law_draws hr hk hn hn3 hm hm3 q s1 np hl hp m1 m2 m3 m4 e1 e2 e3 e4 e5 e6 e7 e8; omega)) (by (clear B D_law_draws hr hk hn hn3 hm hm3 q s1 np hl hp m1 m2 m3 m4 e1 e2 e3 e4 e5 e6 e7 e8; omega)), _, _, rfl, rfl, small (by simp only [len_app, lit_len, ll0, ll1, ll2, ll3, ll4, ll5, ll6, ll7, ll8, ll9, ll10, ll11, ll12, ll13, ll14, ll15, ll16, ll17, ll18, ll19, ll20, ll21, ll22, ll23, ll24, ll25, ll26]; (clear B D_law_draws hr hk hn hn3 hm hm3 q s1 np hl hp m1 m2 m3 m4 e6 e7 e8; omega)), _, _, rfl, rfl, small (by simp only [len_app, lit_len, ll0, ll1, ll2, ll3, ll4, ll5, ll6, ll7, ll8, ll9, ll10, ll11, ll12, ll13, ll14, ll15, ll16, ll17, ll18, ll19, ll20, ll21, ll22, ll23, ll24, ll25, ll26]; (clear B D_law_draws hr hk hn hn3 hm hm3 q s1 np hl hp m1 m2 m3 m4 e6 e7 e8; omega)), _, rfl, _, _, _, _, rfl, rfl, SqL.of hp, rfl, _, _, rfl, rfl, (by show (0 : Int) < _; decide), _, rfl, log_ok (by (clear B D_law_draws hr hk hn hn3 hm hm3 q s1 np hl hp m1 m2 m3 m4 e1 e2 e3 e4 e5 e6 e7 e8; omega)) (by (clear B D_law_draws hr hk hn hn3 hm hm3 q s1 np hl hp m1 m2 m3 m4 e1 e2 e3 e4 e5 e6 e7 e8; omega)), _, _, rfl, rfl, small (by simp only [len_app, lit_len, ll0, ll1, ll2, ll3, ll4, ll5, ll6, ll7, ll8, ll9, ll10, ll11, ll12, ll13, ll14, ll15, ll16, ll17, ll18, ll19, ll20, ll21, ll22, ll23, ll24, ll25, ll26]; (clear B D_law_draws hr hk hn hn3 hm hm3 q s1 np hl hp m1 m2 m3 m4 e7 e8; omega)), ?_⟩
  refine ⟨_, rfl, _, _, rfl, rfl, small (by simp only [len_app, lit_len, ll0, ll1, ll2, ll3, ll4, ll5, ll6, ll7, ll8, ll9, ll10, ll11, ll12, ll13, ll14, ll15, ll16, ll17, ll18, ll19, ll20, ll21, ll22, ll23, ll24, ll25, ll26]; (clear B D_law_draws hr hk hn hn3 hm hm3 q s1 np hl hp m1 m2 m3 m4 e7 e8; omega)), _, rfl, _, _, _, _, rfl, rfl, SqL.of hp, rfl, _, _, rfl, rfl, (by show (0 : Int) < _; decide), _, rfl, log_ok (by (clear B D_law_draws hr hk hn hn3 hm hm3 q s1 np hl hp m1 m2 m3 m4 e1 e2 e3 e4 e5 e6 e7 e8; omega)) (by (clear B D_law_draws hr hk hn hn3 hm hm3 q s1 np hl hp m1 m2 m3 m4 e1 e2 e3 e4 e5 e6 e7 e8; omega)), _, _, rfl, rfl, small (by simp only [len_app, lit_len, ll0, ll1, ll2, ll3, ll4, ll5, ll6, ll7, ll8, ll9, ll10, ll11, ll12, ll13, ll14, ll15, ll16, ll17, ll18, ll19, ll20, ll21, ll22, ll23, ll24, ll25, ll26]; (clear B D_law_draws hr hk hn hn3 hm hm3 q s1 np hl hp m1 m2 m3 m4 e8; omega)), _, _, rfl, rfl, small (by simp only [len_app, lit_len, ll0, ll1, ll2, ll3, ll4, ll5, ll6, ll7, ll8, ll9, ll10, ll11, ll12, ll13, ll14, ll15, ll16, ll17, ll18, ll19, ll20, ll21, ll22, ll23, ll24, ll25, ll26]; (clear B D_law_draws hr hk hn hn3 hm hm3 q s1 np hl hp m1 m2 m3 m4 e8; omega)), _, rfl, _, _, _, _, rfl, rfl, SqL.of hp, rfl, _, _, rfl, rfl, (by show (0 : Int) < _; decide), _, rfl, log_ok (by (clear B D_law_draws hr hk hn hn3 hm hm3 q s1 np hl hp m1 m2 m3 m4 e1 e2 e3 e4 e5 e6 e7 e8; omega)) (by (clear B D_law_draws hr hk hn hn3 hm hm3 q s1 np hl hp m1 m2 m3 m4 e1 e2 e3 e4 e5 e6 e7 e8; omega)), _, _, rfl, rfl, small (by simp only [len_app, lit_len, ll0, ll1, ll2, ll3, ll4, ll5, ll6, ll7, ll8, ll9, ll10, ll11, ll12, ll13, ll14, ll15, ll16, ll17, ll18, ll19, ll20, ll21, ll22, ll23, ll24, ll25, ll26]; (clear B D_law_draws hr hk hn hn3 hm hm3 q s1 np hl hp m1 m2 m3 m4; omega)), _, _, rfl, rfl, small (by simp only [len_app, lit_len, ll0, ll1, ll2, ll3, ll4, ll5, ll6, ll7, ll8, ll9, ll10, ll11, ll12, ll13, ll14, ll15, ll16, ll17, ll18, ll19, ll20, ll21, ll22, ll23, ll24, ll25, ll26]; (clear B D_law_draws hr hk hn hn3 hm hm3 q s1 np hl hp m1 m2 m3 m4; omega)), ?_⟩
  refine (congrArg (fun u => Q (.str u) H1) (row_pasC _ _ _ _ _ _ _ _)).mpr ?_
  have e : d0 % (n : Int) = (((d0 % (n : Int)).toNat : Nat) : Int) := by (clear B D_law_draws hr hk hn hn3 hm hm3 q s1 np hl hp m2 m3 m4 e1 e2 e3 e4 e5 e6 e7 e8; omega)
  have e' : d1 % (m : Int) = (((d1 % (m : Int)).toNat : Nat) : Int) := by (clear B D_law_draws hr hk hn hn3 hm hm3 q s1 np hl hp m1 m2 m4 e1 e2 e3 e4 e5 e6 e7 e8 e; omega)
  have g := q ⟨nameC cP (k : Int), (d0 % (n : Int)).toNat, (d1 % (m : Int)).toNat, 5 + d2 % 27, 5 + d2 % 27 + 1 + d3 % 6, d4 % 16, d5 % 5, d6 % 6⟩ H1 s1 ⟨by dsimp only; (clear B D_law_draws hr hk hn hn3 hm hm3 q s1 np hl hp m1 m3 m4 e1 e2 e3 e4 e5 e6 e7 e8 e'; omega), by dsimp only; (clear B D_law_draws hr hk hn hn3 hm hm3 q s1 np hl hp m1 m2 m3 e1 e2 e3 e4 e5 e6 e7 e8 e; omega), by constructor <;> (dsimp only; (clear B D_law_draws hr hk hn hn3 hm hm3 q s1 np hl hp m1 m2 m3 m4 e1 e2 e3 e4 e5 e6 e7 e8 e e'; omega)), by constructor <;> (dsimp only; (clear B D_law_draws hr hk hn hn3 hm hm3 q s1 np hl hp m1 m2 m3 m4 e1 e2 e3 e4 e5 e6 e7 e8 e e'; omega)), by constructor <;> (dsimp only; (clear B D_law_draws hr hk hn hn3 hm hm3 q s1 np hl hp m1 m2 m3 m4 e1 e2 e3 e4 e5 e6 e7 e8 e e'; omega)), by constructor <;> (dsimp only; (clear B D_law_draws hr hk hn hn3 hm hm3 q s1 np hl hp m1 m2 m3 m4 e1 e2 e3 e4 e5 e6 e7 e8 e e'; omega)), by constructor <;> (dsimp only; (clear B D_law_draws hr hk hn hn3 hm hm3 q s1 np hl hp m1 m2 m3 m4 e1 e2 e3 e4 e5 e6 e7 e8 e e'; omega))⟩ rfl
  have g2 : Q (.str (row (wPasN (nameC cS (((d0 % (n : Int)).toNat : Nat) : Int)) (nameC cT (((d1 % (m : Int)).toNat : Nat) : Int)) ⟨nameC cP (k : Int), (d0 % (n : Int)).toNat, (d1 % (m : Int)).toNat, 5 + d2 % 27, 5 + d2 % 27 + 1 + d3 % 6, d4 % 16, d5 % 5, d6 % 6⟩) ++ nl)) H1 := g
  rw [← e, ← e'] at g2
  exact g2
end
end DP
namespace DP
open PySem PySem.Spec PyProof.Rows L2
abbrev s__law_text : Stmt := topS 84
theorem sc__law_text : FnScope ["script", "recordings", "passes", "satellites", "stations", "text", "k", "n"] ["script", "recordings", "passes"] (defScope s__law_text) := ⟨rfl, rfl, rfl, by decide +kernel, rfl, by decide +kernel, by decide +kernel⟩
abbrev s__law_world : Stmt := topS 85
theorem sc__law_world : FnScope ["script", "size"] ["script"] (defScope s__law_world) := ⟨rfl, rfl, rfl, by decide +kernel, rfl, by decide +kernel, by decide +kernel⟩
structure CG (W : WorldD) : Prop where
  ok : WorldOk W
  hor : W.horizon = 40
  nS : 1 ≤ W.sats.length ∧ W.sats.length ≤ 2
  nT : 1 ≤ W.stas.length ∧ W.stas.length ≤ 2
  nR : 1 ≤ W.recs.length ∧ W.recs.length ≤ 5
  nP : 1 ≤ W.pass.length ∧ W.pass.length ≤ 4
  rcs : ∀ r ∈ W.recs, RecC W.sats.length r
  pss : ∀ p ∈ W.pass, PasC W.sats.length W.stas.length p
theorem wRecN_wd {sn : Str} (hs : NameOk sn) {n : Nat} {r : RecD} (hn : NameOk r.name) (k : RecC n r) : ∀ x ∈ wRecN sn r, WdOk x := by
  have h1 := k.earliest; have h2 := k.latest; have h3 := k.length; have h4 := k.size; have h5 := k.energy; have h6 := k.worth; have h7 := k.rank; have h8 := k.deadline
  exact all_cons (by unfold WdOk; decide +kernel) (all_cons hn.wd (all_cons (by unfold WdOk; decide +kernel) (all_cons hs.wd
    (all_cons (by unfold WdOk; decide +kernel) (all_cons (num_wd (by omega) (by omega)) (all_cons (by unfold WdOk; decide +kernel) (all_cons (num_wd (by omega) (by omega)) (all_cons (by unfold WdOk; decide +kernel) (all_cons (num_wd (by (clear hs hn k h1 h2 h4 h5 h6 h7 h8; omega)) (by (clear hs hn k h1 h2 h4 h5 h6 h7 h8; omega)))
    (all_cons (by unfold WdOk; decide +kernel) (all_cons (num_wd (by (clear hs hn k h1 h2 h3 h5 h6 h7 h8; omega)) (by (clear hs hn k h1 h2 h3 h5 h6 h7 h8; omega))) (all_cons (by unfold WdOk; decide +kernel) (all_cons (num_wd (by (clear hs hn k h1 h2 h3 h4 h6 h7 h8; omega)) (by (clear hs hn k h1 h2 h3 h4 h6 h7 h8; omega))) (all_cons (by unfold WdOk; decide +kernel) (all_cons (num_wd (by (clear hs hn k h1 h2 h3 h4 h5 h7 h8; omega)) (by (clear hs hn k h1 h2 h3 h4 h5 h7 h8; omega)))
    (all_cons (by unfold WdOk; decide +kernel) (all_cons (num_wd (by (clear hs hn k h1 h2 h3 h4 h5 h6 h8; omega)) (by (clear hs hn k h1 h2 h3 h4 h5 h6 h8; omega))) (all_cons (by unfold WdOk; decide +kernel) (all_cons (num_wd (by (clear hs hn k h1 h2 h3 h4 h5 h6 h7; omega)) (by (clear hs hn k h1 h2 h3 h4 h5 h6 h7; omega))) all_nil)))))))))))))))))))
theorem wPasN_wd {sn tn : Str} (hs : NameOk sn) (ht : NameOk tn) {n m : Nat} {p : PasD} (hn : NameOk p.name) (k : PasC n m p) : ∀ x ∈ wPasN sn tn p, WdOk x := by
  have h1 := k.first; have h2 := k.fin; have h3 := k.room; have h4 := k.energy; have h5 := k.fee
  exact all_cons (by unfold WdOk; decide +kernel) (all_cons hn.wd (all_cons (by unfold WdOk; decide +kernel) (all_cons hs.wd (all_cons (by unfold WdOk; decide +kernel) (all_cons ht.wd
    (all_cons (by unfold WdOk; decide +kernel) (all_cons (num_wd (by omega) (by omega)) (all_cons (by unfold WdOk; decide +kernel) (all_cons (num_wd (by omega) (by omega)) (all_cons (by unfold WdOk; decide +kernel) (all_cons (num_wd (by (clear hs ht hn k h1 h2 h4 h5; omega)) (by (clear hs ht hn k h1 h2 h4 h5; omega)))
    (all_cons (by unfold WdOk; decide +kernel) (all_cons (num_wd (by (clear hs ht hn k h1 h2 h3 h5; omega)) (by (clear hs ht hn k h1 h2 h3 h5; omega))) (all_cons (by unfold WdOk; decide +kernel) (all_cons (num_wd (by (clear hs ht hn k h1 h2 h3 h4; omega)) (by (clear hs ht hn k h1 h2 h3 h4; omega))) all_nil)))))))))))))))
/-- rows of a text so far -/
structure RowsI (rows : List (List Str)) (n : Nat) : Prop where
  len : rows.length = n
  short : ∀ l ∈ rows, (row l).length ≤ 1700
theorem RowsI.snoc {rows : List (List Str)} {n : Nat} (h : RowsI rows n) {ws : List Str} (hw : (row ws).length ≤ 1700) : RowsI (rows ++ [ws]) (n + 1) :=
  ⟨by rw [List.length_append, h.len]; rfl, fun l hl => (List.mem_append.mp hl).elim (h.short l) fun z => by rw [List.mem_singleton.mp z]; exact hw⟩
theorem RowsI.glue {rows : List (List Str)} {n : Nat} (h : RowsI rows n) (hn : n ≤ 20) : (glue (rows.map row)).length ≤ 40000 := by
  have g := glue_len (rows := rows.map row) (m := 1700) fun r hr => by
    obtain ⟨l, hl, rfl⟩ := List.mem_map.mp hr
    exact h.short l hl
  rw [List.length_map, h.len] at g
  have := Nat.mul_le_mul (by omega : n + 1 ≤ 21) (Nat.le_refl (1700 + 1))
  omega
theorem RowsI.fits {rows : List (List Str)} {n : Nat} (h : RowsI rows n) (hn : n ≤ 20) {ws : List Str} (hw : (row ws).length ≤ 1700) : (DP.glue (rows.map row)).length + (row ws ++ nl).length ≤ sizeLine := by
  have g := h.glue hn
  have e : nl.length = 1 := by decide +kernel
  rw [len_app, e]
  exact big (by omega)
theorem short_of {ws : List Str} (h : ∀ w ∈ ws, WdOk w) (hl : ws.length ≤ 100) : (row ws).length ≤ 1700 := by
  have := row_len h
  omega
def gR (z : RecD) : List Str := wRecN (nameC cS (z.sat : Int)) z
def gP (z : PasD) : List Str := wPasN (nameC cS (z.sat : Int)) (nameC cT (z.sta : Int)) z
theorem sat_short {z : SatD} (h : SatOk 40 z) : (row (wSat z)).length ≤ 1700 := by
  refine short_of (wSat_wd (by decide) h) ?_
  have h1 := h.light.len (by decide)
  have h3 := lightW_len z.light
  have h4 : (wSat z).length = 15 + (lightW z.light).length := by
    unfold wSat
    rw [List.length_append]
    rfl
  omega
theorem text40 : Str.ofString "horizon 40\n" = glue ([wHor 40].map row) := by decide +kernel
theorem hor_short : (row (wHor 40)).length ≤ 1700 := by decide +kernel
theorem nameS_ok {k : Nat} (h : k < 10) : NameOk (nameC cS (k : Int)) := nameC_ok (x := 115) (by decide +kernel) (by decide) h
theorem nameT_ok {k : Nat} (h : k < 10) : NameOk (nameC cT (k : Int)) := nameC_ok (x := 116) (by decide +kernel) (by decide) h
theorem nameR_ok {k : Nat} (h : k < 10) : NameOk (nameC cR (k : Int)) := nameC_ok (x := 114) (by decide +kernel) (by decide) h
theorem nameP_ok {k : Nat} (h : k < 10) : NameOk (nameC cP (k : Int)) := nameC_ok (x := 112) (by decide +kernel) (by decide) h
theorem nam_step {c : Str} {ns : List Str} {i : Nat} {u : Str} (h : Nam c ns) (hl : ns.length = i) (hu : u = nameC c (i : Nat)) : Nam c (ns ++ [u]) := by
  subst hl hu
  exact h.snoc
theorem worldC_ok {sats : List SatD} {stas : List StaD} {recs : List RecD} {pass : List PasD} (n1 : 1 ≤ sats.length ∧ sats.length ≤ 2) (n2 : 1 ≤ stas.length ∧ stas.length ≤ 2) (n3 : 1 ≤ recs.length ∧ recs.length ≤ 5) (n4 : 1 ≤ pass.length ∧ pass.length ≤ 4)
    (o1 : ∀ z ∈ sats, SatOk 40 z) (m1 : Nam cS (sats.map (·.name))) (o2 : ∀ z ∈ stas, StaOk z) (m2 : Nam cT (stas.map (·.name))) (o3 : ∀ z ∈ recs, RecC sats.length z ∧ NameOk z.name) (m3 : Nam cR (recs.map (·.name)))
    (o4 : ∀ z ∈ pass, PasC sats.length stas.length z ∧ NameOk z.name) (m4 : Nam cP (pass.map (·.name))) : CG ⟨40, sats, stas, recs, pass⟩ := by
  refine ⟨⟨(by show (1 : Int) ≤ 40 ∧ (40 : Int) ≤ 500; decide), ?_, ?_, ?_, ?_, m1.nodup, m2.nodup, m3.nodup, m4.nodup, o1, o2, fun r hr => ?_, fun p hp => ?_⟩, rfl, n1, n2, n3, n4, fun r hr => (o3 r hr).1, fun p hp => (o4 p hp).1⟩
  · dsimp only; omega
  · dsimp only; omega
  · dsimp only; (clear n1 n2 n4 o1 m1 o2 m2 o3 m3 o4 m4; omega)
  · dsimp only; (clear n1 n2 n3 o1 m1 o2 m2 o3 m3 o4 m4; omega)
  · obtain ⟨k, hn⟩ := o3 r hr
    have h1 := k.earliest; have h2 := k.latest; have h3 := k.length; have h4 := k.size; have h5 := k.energy; have h6 := k.worth; have h7 := k.rank; have h8 := k.deadline
    exact ⟨hn, k.sat, by dsimp only; (clear n1 n2 n3 n4 o1 m1 o2 m2 o3 m3 o4 m4 hr k hn h2 h3 h4 h5 h6 h7 h8; omega), by dsimp only; (clear n1 n2 n3 n4 o1 m1 o2 m2 o3 m3 o4 m4 hr k hn h3 h4 h5 h6 h7 h8; omega), by dsimp only; (clear n1 n2 n3 n4 o1 m1 o2 m2 o3 m3 o4 m4 hr k hn h4 h5 h6 h7 h8; omega), by (clear n1 n2 n3 n4 o1 m1 o2 m2 o3 m3 o4 m4 hr k hn h1 h2 h3 h5 h6 h7 h8; omega), by (clear n1 n2 n3 n4 o1 m1 o2 m2 o3 m3 o4 m4 hr k hn h1 h2 h3 h4 h6 h7 h8; omega), by (clear n1 n2 n3 n4 o1 m1 o2 m2 o3 m3 o4 m4 hr k hn h1 h2 h3 h4 h5 h7 h8; omega), by omega, by dsimp only; (clear n1 n2 n3 n4 o1 m1 o2 m2 o3 m3 o4 m4 hr k hn h1 h2 h3 h4 h5 h6 h7; omega)⟩
  · obtain ⟨k, hn⟩ := o4 p hp
    have h1 := k.first; have h2 := k.fin; have h3 := k.room; have h4 := k.energy; have h5 := k.fee
    exact ⟨hn, k.sat, k.sta, by dsimp only; (clear n1 n2 n3 n4 o1 m1 o2 m2 o3 m3 o4 m4 hp k hn h2 h3 h4 h5; omega), by dsimp only; (clear n1 n2 n3 n4 o1 m1 o2 m2 o3 m3 o4 m4 hp k hn h3 h4 h5; omega), by (clear n1 n2 n3 n4 o1 m1 o2 m2 o3 m3 o4 m4 hp k hn h1 h2 h4 h5; omega), by (clear n1 n2 n3 n4 o1 m1 o2 m2 o3 m3 o4 m4 hp k hn h1 h2 h3 h5; omega), by (clear n1 n2 n3 n4 o1 m1 o2 m2 o3 m3 o4 m4 hp k hn h1 h2 h3 h4; omega)⟩
theorem linesC {sats : List SatD} {stas : List StaD} {recs : List RecD} {pass : List PasD} (m1 : Nam cS (sats.map (·.name))) (m2 : Nam cT (stas.map (·.name))) (o3 : ∀ z ∈ recs, z.sat < sats.length) (o4 : ∀ z ∈ pass, z.sat < sats.length ∧ z.sta < stas.length) :
    linesW ⟨40, sats, stas, recs, pass⟩ = [wHor 40] ++ sats.map wSat ++ stas.map wSta ++ recs.map gR ++ pass.map gP := by
  have eS : ∀ i, i < sats.length → satN ⟨40, sats, stas, recs, pass⟩ i = nameC cS (i : Nat) := fun i hi => by
    have h := m1.at (i := i) (by rw [List.length_map]; exact hi)
    show ((sats.map (·.name))[i]?).getD Str.empty = _
    rw [h]
    rfl
  have eT : ∀ i, i < stas.length → staN ⟨40, sats, stas, recs, pass⟩ i = nameC cT (i : Nat) := fun i hi => by
    have h := m2.at (i := i) (by rw [List.length_map]; exact hi)
    show ((stas.map (·.name))[i]?).getD Str.empty = _
    rw [h]
    rfl
  have h3 : recs.map (wRec ⟨40, sats, stas, recs, pass⟩) = recs.map gR := List.map_congr_left fun r hr => by
    show wRecN (satN _ r.sat) r = wRecN (nameC cS (r.sat : Nat)) r
    rw [eS _ (o3 r hr)]
  have h4 : pass.map (wPas ⟨40, sats, stas, recs, pass⟩) = pass.map gP := List.map_congr_left fun r hr => by
    show wPasN (satN _ r.sat) (staN _ r.sta) r = wPasN (nameC cS (r.sat : Nat)) (nameC cT (r.sta : Nat)) r
    rw [eS _ (o4 r hr).1, eT _ (o4 r hr).2]
  show wHor 40 :: (sats.map wSat ++ stas.map wSta ++ recs.map (wRec _) ++ pass.map (wPas _)) = _
  rw [h3, h4]
  rfl
section
variable {P : Program} {w : World} {K : PySem.W.Frag} {mg : Str → Option Value} {base : Heap}
def spTextC (K : PySem.W.Frag) : Sp := fun vs H Q _ => ∃ (a : Addr) (ns : List Int) (R N : Nat), vs = [.ref a, .int (R : Int), .int (N : Int)] ∧ SqL K H a (ns.map V.int) ∧ (1 ≤ R ∧ R ≤ 5) ∧ (1 ≤ N ∧ N ≤ 4) ∧ ∀ (W : WorldD) (H' : Hp), Same H H' → CG W → W.recs.length = R → W.pass.length = N → Q (.str (textW W)) H'
set_option maxHeartbeats 16000000 in
theorem d_textC (B : Bt mg) (D_law_cell : DefOk P w K mg base CX0 1 "_law_cell" ["script", "k"] (spCell K)) (D_law_draws : DefOk P w K mg base CX0 1 "_law_draws" ["cell", "count"] spDrawsC) (D_law_satellite : DefOk P w K mg base CX0 2 "_law_satellite" ["cell", "k"] spSatC)
    (D_law_recording : DefOk P w K mg base CX0 2 "_law_recording" ["cell", "k", "satellites"] spRecC) (D_law_pass : DefOk P w K mg base CX0 2 "_law_pass" ["cell", "k", "satellites", "stations"] spPasC)
    (A : At K mg "_law_text" s__law_text ["script", "recordings", "passes"]) : DefOk P w K mg base CX0 3 "_law_text" ["script", "recordings", "passes"] (spTextC K) := by
  refine A.ok sc__law_text (fun vs H Q E h => ?_) (fun f cdv A outer s H vs Q E hr h => ?_)
  · obtain ⟨a, ns, R, N, rfl, _⟩ := h
    rfl
  obtain ⟨a, ns, R, N, rfl, hS, hR, hN, q⟩ := h
  refine ⟨_, pss_cons (ps_set (i := 3) sc__law_text.nd rfl (Or.inl rfl) (pe_op op_add pe_int (pe_op op_mod (pe_callTy (call_int1) (by rfl) B.int (by decide +kernel) (pa_cons (pe_f D_law_cell (hr.mono (by omega)) pass0 (pa_cons (pv 0) (pa_cons pe_int pa_nil))) pa_nil)) pe_int)))
  (pss_cons (ps_set (i := 4) sc__law_text.nd rfl (Or.inl rfl) (pe_op op_add pe_int (pe_op op_mod (pe_op op_fdiv (pe_callTy (call_int1) (by rfl) B.int (by decide +kernel) (pa_cons (pe_f D_law_cell (hr.mono (by omega)) pass0 (pa_cons (pv 0) (pa_cons pe_int pa_nil))) pa_nil)) pe_int) pe_int)))
  (pss_cons (ps_set (i := 5) sc__law_text.nd rfl (Or.inl rfl) pe_str)
  (pss_cons (ps_for PassesOwn.never rfl (pi_range1 (by rfl) B.range (pa_cons (pv 3) pa_nil)) (pg_name (i := 6) sc__law_text.nd rfl (Or.inl rfl))
      (pss_one (ps_set (i := 5) sc__law_text.nd rfl (Or.inl rfl) (pe_op op_add_str (pv 5) (pe_f D_law_satellite (hr.mono (by omega)) pass0 (pa_cons (pe_f D_law_cell (hr.mono (by omega)) pass0 (pa_cons (pv 0) (pa_cons (pe_op op_add pe_int (pv 6)) pa_nil))) (pa_cons (pv 6) pa_nil)))))))
  (pss_cons (ps_for PassesOwn.never rfl (pi_range1 (by rfl) B.range (pa_cons (pv 4) pa_nil)) (pg_name (i := 6) sc__law_text.nd rfl (Or.inl rfl))
      (pss_cons (ps_set (i := 7) sc__law_text.nd rfl (Or.inl rfl) (pe_f D_law_draws (hr.mono (by omega)) pass0 (pa_cons (pe_f D_law_cell (hr.mono (by omega)) pass0 (pa_cons (pv 0) (pa_cons (pe_op op_add pe_int (pv 6)) pa_nil))) (pa_cons pe_int pa_nil))))
      (pss_one (ps_set (i := 5) sc__law_text.nd rfl (Or.inl rfl) (pe_op op_add_str (pe_op op_add_str (pe_op op_add_str (pe_op op_add_str (pe_op op_add_str (pe_op op_add_str (pe_op op_add_str (pv 5) pe_str) (pe_callTy (call_str_int) (by rfl) B.str (by decide +kernel) (pa_cons (pv 6) pa_nil))) pe_str) (pe_callTy (call_str_int) (by rfl) B.str (by decide +kernel) (pa_cons (pe_op op_add pe_int (pe_op op_mod (pe_ix ix_list (pv 7) pe_int (fun _ _ => rfl)) pe_int)) pa_nil))) pe_str) (pe_callTy (call_str_int) (by rfl) B.str (by decide +kernel) (pa_cons (pe_op op_mod (pe_ix ix_list (pv 7) pe_int (fun _ _ => rfl)) pe_int) pa_nil))) pe_str)))))
  (pss_cons (ps_for PassesOwn.never rfl (pi_range1 (by rfl) B.range (pa_cons (pv 1) pa_nil)) (pg_name (i := 6) sc__law_text.nd rfl (Or.inl rfl))
      (pss_one (ps_set (i := 5) sc__law_text.nd rfl (Or.inl rfl) (pe_op op_add_str (pv 5) (pe_f D_law_recording (hr.mono (by omega)) pass0 (pa_cons (pe_f D_law_cell (hr.mono (by omega)) pass0 (pa_cons (pv 0) (pa_cons (pe_op op_add pe_int (pv 6)) pa_nil))) (pa_cons (pv 6) (pa_cons (pv 3) pa_nil))))))))
  (pss_cons (ps_for PassesOwn.never rfl (pi_range1 (by rfl) B.range (pa_cons (pv 2) pa_nil)) (pg_name (i := 6) sc__law_text.nd rfl (Or.inl rfl))
      (pss_one (ps_set (i := 5) sc__law_text.nd rfl (Or.inl rfl) (pe_op op_add_str (pv 5) (pe_f D_law_pass (hr.mono (by omega)) pass0 (pa_cons (pe_f D_law_cell (hr.mono (by omega)) pass0 (pa_cons (pv 0) (pa_cons (pe_op op_add pe_int (pv 6)) pa_nil))) (pa_cons (pv 6) (pa_cons (pv 3) (pa_cons (pv 4) pa_nil)))))))))
  (pss_one (ps_ret (pv 5)))))))))
    , ?_⟩
  refine ⟨_, rfl, a, ns, 0, rfl, hS, by decide, fun u => .inl ⟨_, rfl, _, _, rfl, rfl, (by show (0 : Int) < _; decide), _, _, rfl, rfl, ?_⟩⟩
  refine ⟨_, rfl, a, ns, 0, rfl, hS, by decide, fun u2 => .inl ⟨_, rfl, _, _, rfl, rfl, ⟨by decide, by decide⟩, _, _, rfl, rfl, (by show (0 : Int) < _; decide), _, _, rfl, rfl, ?_⟩⟩
  obtain ⟨S, eS⟩ : ∃ S : Nat, 1 + u % 2 = (S : Int) := ⟨(1 + u % 2).toNat, by (clear B D_law_cell D_law_draws D_law_satellite D_law_recording D_law_pass hr hS hR hN q; omega)⟩
  obtain ⟨T, eT⟩ : ∃ T : Nat, 1 + u2 / 2 % 2 = (T : Int) := ⟨(1 + u2 / 2 % 2).toNat, by (clear B D_law_cell D_law_draws D_law_satellite D_law_recording D_law_pass hr hS hR hN q eS; omega)⟩
  have bS : 1 ≤ S ∧ S ≤ 2 := by (clear B D_law_cell D_law_draws D_law_satellite D_law_recording D_law_pass hr hS hR hN q eT; omega)
  have bT : 1 ≤ T ∧ T ≤ 2 := by (clear B D_law_cell D_law_draws D_law_satellite D_law_recording D_law_pass hr hS hR hN q eS bS; omega)
  refine ⟨_, rfl, _, rfl, by (clear B D_law_cell D_law_draws D_law_satellite D_law_recording D_law_pass hr hS hR hN q eT bS bT; omega), by (clear B D_law_cell D_law_draws D_law_satellite D_law_recording D_law_pass hr hS hR hN q eT bS bT; omega), for_range (lo := 0) (n := (1 + u % 2).toNat) (fun i σ H' => ∃ (sats : List SatD) (y6 y7 : Option V), σ = [some (.ref a), some (.int (R : Int)), some (.int (N : Int)), some (.int (1 + u % 2)), some (.int (1 + u2 / 2 % 2)), some (.str (glue (([wHor 40] ++ sats.map wSat).map row))), y6, y7] ∧ sats.length = i ∧
    RowsI ([wHor 40] ++ sats.map wSat) (1 + i) ∧ (∀ z ∈ sats, SatOk 40 z) ∧ Nam cS (sats.map (·.name)) ∧ Same H H') ⟨[], none, none, by rw [text40]; rfl, rfl, ⟨rfl, fun l hl => by rw [List.mem_singleton.mp hl]; exact hor_short⟩, fun z hz => (nomatch hz), Nam.nil _, Same.refl _⟩ (fun i σ H1 hi hI => ?_) (fun σ H1 hI => ?_)⟩
  · obtain ⟨sats, y6, y7, rfl, hl, hr1, ho, hm, hs⟩ := hI
    refine ⟨_, rfl, _, rfl, _, rfl, _, _, rfl, rfl, a, ns, 1 + (0 + (i : Int)), rfl, hs.seq hS, by (clear B D_law_cell D_law_draws D_law_satellite D_law_recording D_law_pass hr hS hR hN q eS eT bS bT hi hr1 ho hm hs; omega), fun c => ⟨_, rfl, c, i, by rw [Int.zero_add]; rfl, by (clear B D_law_cell D_law_draws D_law_satellite D_law_recording D_law_pass hr hS hR hN q eT bS bT hr1 ho hm hs; omega), fun z H2 s2 zok zn => ?_⟩⟩
    have sh := sat_short zok
    refine ⟨_, _, rfl, rfl, hr1.fits (by (clear B D_law_cell D_law_draws D_law_satellite D_law_recording D_law_pass hr hS hR hN q eT bS bT hr1 ho hm hs s2 zok zn sh; omega)) sh, ?_⟩
    refine ⟨sats ++ [z], some (.int (0 + (i : Int))), y7, ?_, by rw [List.length_append, hl]; rfl, ?_, fun x hx => (List.mem_append.mp hx).elim (ho x) fun e => by rw [List.mem_singleton.mp e]; exact zok, ?_, hs.trans s2⟩
    · show _ = ([some (.ref a), some (.int (R : Int)), some (.int (N : Int)), some (.int (1 + u % 2)), some (.int (1 + u2 / 2 % 2)), some (.str (glue (([wHor 40] ++ (sats ++ [z]).map wSat).map row))), _, _] : L2.St)
      rw [List.map_append (f := wSat), ← List.append_assoc, show [z].map wSat = [wSat z] from rfl, ← glue_add]
      rfl
    · rw [List.map_append, ← List.append_assoc]
      exact hr1.snoc sh
    · rw [List.map_append]
      exact nam_step hm (by rw [List.length_map, hl]) zn
  obtain ⟨sats, y6, y7, rfl, hl1, hr1, ho1, hm1, hs1⟩ := hI
  have l1 : sats.length = S := by (clear B D_law_cell D_law_draws D_law_satellite D_law_recording D_law_pass hr hS hR hN q eT bS bT hr1 ho1 hm1 hs1; omega)
  refine ⟨_, rfl, _, rfl, by (clear B D_law_cell D_law_draws D_law_satellite D_law_recording D_law_pass hr hS hR hN q eS bS bT hl1 hr1 ho1 hm1 hs1 l1; omega), by (clear B D_law_cell D_law_draws D_law_satellite D_law_recording D_law_pass hr hS hR hN q eS bS bT hl1 hr1 ho1 hm1 hs1 l1; omega), for_range (lo := 0) (n := (1 + u2 / 2 % 2).toNat) (fun i σ H' => ∃ (stas : List StaD) (y6 y7 : Option V), σ = [some (.ref a), some (.int (R : Int)), some (.int (N : Int)), some (.int (1 + u % 2)), some (.int (1 + u2 / 2 % 2)), some (.str (glue (([wHor 40] ++ sats.map wSat ++ stas.map wSta).map row))), y6, y7] ∧ stas.length = i ∧
    RowsI ([wHor 40] ++ sats.map wSat ++ stas.map wSta) (1 + S + i) ∧ (∀ z ∈ stas, StaOk z) ∧ Nam cT (stas.map (·.name)) ∧ Same H H') ⟨[], _, _, by rw [show (([] : List StaD).map wSta) = [] from rfl, List.append_nil] <;> rfl, rfl, by rw [show (([] : List StaD).map wSta) = [] from rfl, List.append_nil]; have := hr1.len; exact ⟨by rw [this]; (clear B D_law_cell D_law_draws D_law_satellite D_law_recording D_law_pass hr hS hR hN q eS eT bS bT hr1 ho1 hm1 hs1 this; omega), hr1.short⟩, fun z hz => (nomatch hz), Nam.nil _, hs1⟩ (fun i σ H2 hi hI => ?_) (fun σ H2 hI => ?_)⟩
  · obtain ⟨stas, y6, y7, rfl, hl, hr2, ho, hm, hs⟩ := hI
    refine ⟨_, rfl, _, rfl, _, _, rfl, rfl, a, ns, 3 + (0 + (i : Int)), rfl, hs.seq hS, by (clear B D_law_cell D_law_draws D_law_satellite D_law_recording D_law_pass hr hS hR hN q eS eT bS bT hl1 hr1 ho1 hm1 hs1 l1 hi hr2 ho hm hs; omega), fun c => ⟨c, 2, rfl, by decide, fun p ds H3 s3 np hl3 hp => ?_⟩⟩
    obtain ⟨d0, d1, rfl⟩ := two_ hl3
    have e1 := tos_len (n := 0 + (i : Int)) (by (clear B D_law_cell D_law_draws D_law_satellite D_law_recording D_law_pass hr hS hR hN q eS eT bS bT hl1 hr1 ho1 hm1 hs1 l1 hi hr2 ho hm hs s3 np hl3 hp; omega)) (by (clear B D_law_cell D_law_draws D_law_satellite D_law_recording D_law_pass hr hS hR hN q eS bS bT hl1 hr1 ho1 hm1 hs1 l1 hr2 ho hm hs s3 np hl3 hp; omega))
    have e2 := tos_len (n := 1 + d0 % 2) (by (clear B D_law_cell D_law_draws D_law_satellite D_law_recording D_law_pass hr hS hR hN q eS eT bS bT hl1 hr1 ho1 hm1 hs1 l1 hi hl hr2 ho hm hs s3 np hl3 hp e1; omega)) (by (clear B D_law_cell D_law_draws D_law_satellite D_law_recording D_law_pass hr hS hR hN q eS eT bS bT hl1 hr1 ho1 hm1 hs1 l1 hi hl hr2 ho hm hs s3 np hl3 hp e1; omega))
    have e3 := tos_len (n := d1 % 4) (by (clear B D_law_cell D_law_draws D_law_satellite D_law_recording D_law_pass hr hS hR hN q eS eT bS bT hl1 hr1 ho1 hm1 hs1 l1 hi hl hr2 ho hm hs s3 np hl3 hp e1 e2; omega)) (by (clear B D_law_cell D_law_draws D_law_satellite D_law_recording D_law_pass hr hS hR hN q eS eT bS bT hl1 hr1 ho1 hm1 hs1 l1 hi hl hr2 ho hm hs s3 np hl3 hp e1 e2; omega))
    have gl := hr2.glue (by omega)
    have nm := nameT_ok (k := i) (by (clear B D_law_cell D_law_draws D_law_satellite D_law_recording D_law_pass hr hS hR hN q eS bS bT hl1 hr1 ho1 hm1 hs1 l1 hr2 ho hm hs s3 np hl3 hp e1 e2 e3 gl; omega))
    have ex : Int.ofNat i = 0 + (i : Int) := by rw [Int.zero_add]; rfl
    have zok : StaOk ⟨nameC cT (i : Int), 1 + d0 % 2, d1 % 4⟩ := ⟨nm, by constructor <;> (dsimp only; (clear B D_law_cell D_law_draws D_law_satellite D_law_recording D_law_pass hr hS hR hN q eS eT bS bT hl1 hr1 ho1 hm1 hs1 l1 hi hl hr2 ho hm hs s3 np hl3 hp e1 e2 e3 gl nm ex; omega)), by constructor <;> (dsimp only; (clear B D_law_cell D_law_draws D_law_satellite D_law_recording D_law_pass hr hS hR hN q eS eT bS bT hl1 hr1 ho1 hm1 hs1 l1 hi hl hr2 ho hm hs s3 np hl3 hp e1 e2 e3 gl nm ex; omega))⟩
    have sh : (row (wSta ⟨nameC cT (i : Int), 1 + d0 % 2, d1 % 4⟩)).length ≤ 1700 := short_of (wSta_wd zok) (by show 6 ≤ 100; decide)
    refine ⟨_, rfl, _, _, rfl, rfl, big (by rw [lit_len, ll24]; (clear B D_law_cell D_law_draws D_law_satellite D_law_recording D_law_pass hr hS hR hN q eS eT bS bT hl1 hr1 ho1 hm1 hs1 l1 hi hl hr2 ho hm hs s3 np hl3 hp e1 e2 e3 nm ex zok sh; omega)), _, rfl, _, rfl, log_ok (by (clear B D_law_cell D_law_draws D_law_satellite D_law_recording D_law_pass hr hS hR hN q eS eT bS bT hl1 hr1 ho1 hm1 hs1 l1 hi hr2 ho hm hs s3 np hl3 hp e1 e2 e3 gl nm zok sh; omega)) (by (clear B D_law_cell D_law_draws D_law_satellite D_law_recording D_law_pass hr hS hR hN q eS bS bT hl1 hr1 ho1 hm1 hs1 l1 hr2 ho hm hs s3 np hl3 hp e1 e2 e3 gl nm zok sh; omega)), _, _, rfl, rfl, big (by simp only [len_app, lit_len, ll0, ll1, ll2, ll3, ll4, ll5, ll6, ll7, ll8, ll9, ll10, ll11, ll12, ll13, ll14, ll15, ll16, ll17, ll18, ll19, ll20, ll21, ll22, ll23, ll24, ll25, ll26]; (clear B D_law_cell D_law_draws D_law_satellite D_law_recording D_law_pass hr hS hR hN q eS eT bS bT hl1 hr1 ho1 hm1 hs1 l1 hi hl hr2 ho hm hs s3 np hl3 hp e2 e3 nm ex zok sh; omega)), _, _, rfl, rfl, big (by simp only [len_app, lit_len, ll0, ll1, ll2, ll3, ll4, ll5, ll6, ll7, ll8, ll9, ll10, ll11, ll12, ll13, ll14, ll15, ll16, ll17, ll18, ll19, ll20, ll21, ll22, ll23, ll24, ll25, ll26]; (clear B D_law_cell D_law_draws D_law_satellite D_law_recording D_law_pass hr hS hR hN q eS eT bS bT hl1 hr1 ho1 hm1 hs1 l1 hi hl hr2 ho hm hs s3 np hl3 hp e2 e3 nm ex zok sh; omega)), _, rfl, _, _, _, _, rfl, rfl, SqL.of hp, rfl, _, _, rfl, rfl, (by show (0 : Int) < _; decide), _, _, rfl, rfl, _, rfl, log_ok (by (clear B D_law_cell D_law_draws D_law_satellite D_law_recording D_law_pass hr hS hR hN q eS eT bS bT hl1 hr1 ho1 hm1 hs1 l1 hi hl hr2 ho hm hs s3 np hl3 hp e1 e2 e3 gl nm ex zok sh; omega)) (by (clear B D_law_cell D_law_draws D_law_satellite D_law_recording D_law_pass hr hS hR hN q eS eT bS bT hl1 hr1 ho1 hm1 hs1 l1 hi hl hr2 ho hm hs s3 np hl3 hp e1 e2 e3 gl nm ex zok sh; omega)), _, _, rfl, rfl, big (by simp only [len_app, lit_len, ll0, ll1, ll2, ll3, ll4, ll5, ll6, ll7, ll8, ll9, ll10, ll11, ll12, ll13, ll14, ll15, ll16, ll17, ll18, ll19, ll20, ll21, ll22, ll23, ll24, ll25, ll26]; (clear B D_law_cell D_law_draws D_law_satellite D_law_recording D_law_pass hr hS hR hN q eS eT bS bT hl1 hr1 ho1 hm1 hs1 l1 hi hl hr2 ho hm hs s3 np hl3 hp e3 nm ex zok sh; omega)), _, _, rfl, rfl, big (by simp only [len_app, lit_len, ll0, ll1, ll2, ll3, ll4, ll5, ll6, ll7, ll8, ll9, ll10, ll11, ll12, ll13, ll14, ll15, ll16, ll17, ll18, ll19, ll20, ll21, ll22, ll23, ll24, ll25, ll26]; (clear B D_law_cell D_law_draws D_law_satellite D_law_recording D_law_pass hr hS hR hN q eS eT bS bT hl1 hr1 ho1 hm1 hs1 l1 hi hl hr2 ho hm hs s3 np hl3 hp e3 nm ex zok sh; omega)), _, rfl, _, _, _, _, rfl, rfl, SqL.of hp, rfl, _, _, rfl, rfl, (by show (0 : Int) < _; decide), _, rfl, log_ok (by (clear B D_law_cell D_law_draws D_law_satellite D_law_recording D_law_pass hr hS hR hN q eS eT bS bT hl1 hr1 ho1 hm1 hs1 l1 hi hl hr2 ho hm hs s3 np hl3 hp e1 e2 e3 gl nm ex zok sh; omega)) (by (clear B D_law_cell D_law_draws D_law_satellite D_law_recording D_law_pass hr hS hR hN q eS eT bS bT hl1 hr1 ho1 hm1 hs1 l1 hi hl hr2 ho hm hs s3 np hl3 hp e1 e2 e3 gl nm ex zok sh; omega)), _, _, rfl, rfl, big (by simp only [len_app, lit_len, ll0, ll1, ll2, ll3, ll4, ll5, ll6, ll7, ll8, ll9, ll10, ll11, ll12, ll13, ll14, ll15, ll16, ll17, ll18, ll19, ll20, ll21, ll22, ll23, ll24, ll25, ll26]; (clear B D_law_cell D_law_draws D_law_satellite D_law_recording D_law_pass hr hS hR hN q eS eT bS bT hl1 hr1 ho1 hm1 hs1 l1 hi hl hr2 ho hm hs s3 np hl3 hp nm ex zok sh; omega)), _, _, rfl, rfl, big (by simp only [len_app, lit_len, ll0, ll1, ll2, ll3, ll4, ll5, ll6, ll7, ll8, ll9, ll10, ll11, ll12, ll13, ll14, ll15, ll16, ll17, ll18, ll19, ll20, ll21, ll22, ll23, ll24, ll25, ll26]; (clear B D_law_cell D_law_draws D_law_satellite D_law_recording D_law_pass hr hS hR hN q eS eT bS bT hl1 hr1 ho1 hm1 hs1 l1 hi hl hr2 ho hm hs s3 np hl3 hp nm ex zok sh; omega)), ?_⟩
    refine ⟨stas ++ [⟨nameC cT (i : Int), 1 + d0 % 2, d1 % 4⟩], some (.int (0 + (i : Int))), some (.ref p), ?_, by rw [List.length_append, hl]; rfl, ?_, fun x hx => (List.mem_append.mp hx).elim (ho x) fun e => by rw [List.mem_singleton.mp e]; exact zok, ?_, hs.trans s3⟩
    · have e := glue_staC ([wHor 40] ++ sats.map wSat ++ stas.map wSta) (0 + (i : Int)) (1 + d0 % 2) (d1 % 4)
      have e' : glue (([wHor 40] ++ sats.map wSat ++ stas.map wSta ++ [wSta ⟨nameC cT (i : Int), 1 + d0 % 2, d1 % 4⟩]).map row) = glue (([wHor 40] ++ sats.map wSat ++ stas.map wSta).map row) ++ Str.ofString "station t" ++ num (0 + (i : Int)) ++ Str.ofString " antennas " ++ num (1 + d0 % 2) ++ Str.ofString " turn " ++ num (d1 % 4) ++ Str.ofString "\n" := by
        rw [e, Int.zero_add]
      show _ = ([some (.ref a), some (.int (R : Int)), some (.int (N : Int)), some (.int (1 + u % 2)), some (.int (1 + u2 / 2 % 2)), some (.str (glue (([wHor 40] ++ sats.map wSat ++ (stas ++ [(⟨nameC cT (i : Int), 1 + d0 % 2, d1 % 4⟩ : StaD)]).map wSta).map row))), _, _] : L2.St)
      rw [List.map_append (f := wSta), ← List.append_assoc, show [(⟨nameC cT (i : Int), 1 + d0 % 2, d1 % 4⟩ : StaD)].map wSta = [wSta ⟨nameC cT (i : Int), 1 + d0 % 2, d1 % 4⟩] from rfl, e']
      rfl
    · rw [List.map_append, ← List.append_assoc]
      exact hr2.snoc sh
    · rw [List.map_append]
      exact nam_step hm (by rw [List.length_map, hl]) rfl
  obtain ⟨stas, y6, y7, rfl, hl2, hr2, ho2, hm2, hs2⟩ := hI
  have l2 : stas.length = T := by (clear B D_law_cell D_law_draws D_law_satellite D_law_recording D_law_pass hr hS hR hN q eS bS bT hl1 hr1 ho1 hm1 hs1 l1 hr2 ho2 hm2 hs2; omega)
  refine ⟨_, rfl, _, rfl, by omega, by (clear B D_law_cell D_law_draws D_law_satellite D_law_recording D_law_pass hr hS hN q eS eT bS bT hl1 hr1 ho1 hm1 hs1 l1 hl2 hr2 ho2 hm2 hs2 l2; omega), for_range (lo := 0) (n := ((R : Nat) : Int).toNat) (fun i σ H' => ∃ (recs : List RecD) (y6 y7 : Option V), σ = [some (.ref a), some (.int (R : Int)), some (.int (N : Int)), some (.int (1 + u % 2)), some (.int (1 + u2 / 2 % 2)), some (.str (glue (([wHor 40] ++ sats.map wSat ++ stas.map wSta ++ recs.map gR).map row))), y6, y7] ∧ recs.length = i ∧
    RowsI ([wHor 40] ++ sats.map wSat ++ stas.map wSta ++ recs.map gR) (1 + S + T + i) ∧ (∀ z ∈ recs, RecC S z ∧ NameOk z.name) ∧ Nam cR (recs.map (·.name)) ∧ Same H H') ⟨[], _, _, by rw [show (([] : List RecD).map gR) = [] from rfl, List.append_nil] <;> rfl, rfl, by rw [show (([] : List RecD).map gR) = [] from rfl, List.append_nil]; have := hr2.len; exact ⟨by rw [this]; (clear B D_law_cell D_law_draws D_law_satellite D_law_recording D_law_pass hr hS hR hN q eS eT bS bT hl1 hr1 ho1 hm1 hs1 l1 hr2 ho2 hm2 hs2 this; omega), hr2.short⟩, fun z hz => (nomatch hz), Nam.nil _, hs2⟩ (fun i σ H2 hi hI => ?_) (fun σ H3 hI => ?_)⟩
  · obtain ⟨recs, y6, y7, rfl, hl, hr3, ho, hm, hs⟩ := hI
    refine ⟨_, rfl, _, rfl, _, rfl, _, _, rfl, rfl, a, ns, 5 + (0 + (i : Int)), rfl, hs.seq hS, by (clear B D_law_cell D_law_draws D_law_satellite D_law_recording D_law_pass hr hS hR hN q eS eT bS bT hl1 hr1 ho1 hm1 hs1 l1 hl2 hr2 ho2 hm2 hs2 l2 hi hr3 ho hm hs; omega), fun c => ⟨_, rfl, _, rfl, c, i, S, by rw [Int.zero_add, eS]; rfl, by (clear B D_law_cell D_law_draws D_law_satellite D_law_recording D_law_pass hr hS hN q eS eT bS bT hl1 hr1 ho1 hm1 hs1 l1 hl2 hr2 ho2 hm2 hs2 l2 hr3 ho hm hs; omega), by (clear B D_law_cell D_law_draws D_law_satellite D_law_recording D_law_pass hr hS hR hN q eT bS bT hr1 ho1 hm1 hs1 hl2 hr2 ho2 hm2 hs2 l2 hi hl hr3 ho hm hs; omega), by (clear B D_law_cell D_law_draws D_law_satellite D_law_recording D_law_pass hr hS hR hN q eT bS bT hr1 ho1 hm1 hs1 hl2 hr2 ho2 hm2 hs2 l2 hi hl hr3 ho hm hs; omega), fun z H3 s3 zok zn => ?_⟩⟩
    have zn' : NameOk z.name := by rw [zn]; exact nameR_ok (by (clear B D_law_cell D_law_draws D_law_satellite D_law_recording D_law_pass hr hS hN q eS eT bS bT hl1 hr1 ho1 hm1 hs1 l1 hl2 hr2 ho2 hm2 hs2 l2 hr3 ho hm hs s3 zok zn; omega))
    have sh : (row (gR z)).length ≤ 1700 := short_of (wRecN_wd (nameS_ok (by have := zok.sat; (clear B D_law_cell D_law_draws D_law_satellite D_law_recording D_law_pass hr hS hR hN q eT bS bT hr1 ho1 hm1 hs1 hl2 hr2 ho2 hm2 hs2 l2 hi hl hr3 ho hm hs s3 zok zn zn'; omega))) zn' zok) (by show 20 ≤ 100; decide)
    refine ⟨_, _, rfl, rfl, hr3.fits (by omega) sh, ?_⟩
    refine ⟨recs ++ [z], some (.int (0 + (i : Int))), y7, ?_, by rw [List.length_append, hl]; rfl, ?_, fun x hx => (List.mem_append.mp hx).elim (ho x) fun e => by rw [List.mem_singleton.mp e]; exact ⟨zok, zn'⟩, ?_, hs.trans s3⟩
    · show _ = ([some (.ref a), some (.int (R : Int)), some (.int (N : Int)), some (.int (1 + u % 2)), some (.int (1 + u2 / 2 % 2)), some (.str (glue (([wHor 40] ++ sats.map wSat ++ stas.map wSta ++ (recs ++ [z]).map gR).map row))), _, _] : L2.St)
      rw [List.map_append (f := gR), ← List.append_assoc, show [z].map gR = [gR z] from rfl, ← glue_add]
      rfl
    · rw [List.map_append, ← List.append_assoc]
      exact hr3.snoc sh
    · rw [List.map_append]
      exact nam_step hm (by rw [List.length_map, hl]) zn
  obtain ⟨recs, y6, y7, rfl, hl3, hr3, ho3, hm3, hs3⟩ := hI
  have l3 : recs.length = R := by (clear B D_law_cell D_law_draws D_law_satellite D_law_recording D_law_pass hr hS hN q eS eT bS bT hl1 hr1 ho1 hm1 hs1 l1 hl2 hr2 ho2 hm2 hs2 l2 hr3 ho3 hm3 hs3; omega)
  refine ⟨_, rfl, _, rfl, by (clear B D_law_cell D_law_draws D_law_satellite D_law_recording D_law_pass hr hS hR q eS eT bS bT hl1 hr1 ho1 hm1 hs1 l1 hl2 hr2 ho2 hm2 hs2 l2 hl3 hr3 ho3 hm3 hs3 l3; omega), by (clear B D_law_cell D_law_draws D_law_satellite D_law_recording D_law_pass hr hS hR q eS eT bS bT hl1 hr1 ho1 hm1 hs1 l1 hl2 hr2 ho2 hm2 hs2 l2 hl3 hr3 ho3 hm3 hs3 l3; omega), for_range (lo := 0) (n := ((N : Nat) : Int).toNat) (fun i σ H' => ∃ (pass : List PasD) (y6 y7 : Option V), σ = [some (.ref a), some (.int (R : Int)), some (.int (N : Int)), some (.int (1 + u % 2)), some (.int (1 + u2 / 2 % 2)), some (.str (glue (([wHor 40] ++ sats.map wSat ++ stas.map wSta ++ recs.map gR ++ pass.map gP).map row))), y6, y7] ∧ pass.length = i ∧
    RowsI ([wHor 40] ++ sats.map wSat ++ stas.map wSta ++ recs.map gR ++ pass.map gP) (1 + S + T + R + i) ∧ (∀ z ∈ pass, PasC S T z ∧ NameOk z.name) ∧ Nam cP (pass.map (·.name)) ∧ Same H H') ⟨[], _, _, by rw [show (([] : List PasD).map gP) = [] from rfl, List.append_nil] <;> rfl, rfl, by rw [show (([] : List PasD).map gP) = [] from rfl, List.append_nil]; have := hr3.len; exact ⟨by rw [this]; (clear B D_law_cell D_law_draws D_law_satellite D_law_recording D_law_pass hr hS hR hN q eS eT bS bT hl1 hr1 ho1 hm1 hs1 l1 hl2 hr2 ho2 hm2 hs2 l2 hr3 ho3 hm3 hs3 this; omega), hr3.short⟩, fun z hz => (nomatch hz), Nam.nil _, hs3⟩ (fun i σ H2 hi hI => ?_) (fun σ H4 hI => ?_)⟩
  · obtain ⟨pass, y6, y7, rfl, hl, hr4, ho, hm, hs⟩ := hI
    refine ⟨_, rfl, _, rfl, _, rfl, _, _, rfl, rfl, a, ns, 11 + (0 + (i : Int)), rfl, hs.seq hS, by (clear B D_law_cell D_law_draws D_law_satellite D_law_recording D_law_pass hr hS hR hN q eS eT bS bT hl1 hr1 ho1 hm1 hs1 l1 hl2 hr2 ho2 hm2 hs2 l2 hl3 hr3 ho3 hm3 hs3 l3 hi hr4 ho hm hs; omega), fun c => ⟨_, rfl, _, rfl, _, rfl, c, i, S, T, by rw [Int.zero_add, eS, eT]; rfl, by (clear B D_law_cell D_law_draws D_law_satellite D_law_recording D_law_pass hr hS hR q eS eT bS bT hl1 hr1 ho1 hm1 hs1 l1 hl2 hr2 ho2 hm2 hs2 l2 hl3 hr3 ho3 hm3 hs3 l3 hr4 ho hm hs; omega), by (clear B D_law_cell D_law_draws D_law_satellite D_law_recording D_law_pass hr hS hR hN q eT bS bT hr1 ho1 hm1 hs1 hl2 hr2 ho2 hm2 hs2 l2 hl3 hr3 ho3 hm3 hs3 l3 hi hl hr4 ho hm hs; omega), by (clear B D_law_cell D_law_draws D_law_satellite D_law_recording D_law_pass hr hS hR hN q eT bS bT hr1 ho1 hm1 hs1 hl2 hr2 ho2 hm2 hs2 l2 hl3 hr3 ho3 hm3 hs3 l3 hi hl hr4 ho hm hs; omega), by (clear B D_law_cell D_law_draws D_law_satellite D_law_recording D_law_pass hr hS hR hN q eS bS bT hl1 hr1 ho1 hm1 hs1 l1 hr2 ho2 hm2 hs2 hl3 hr3 ho3 hm3 hs3 l3 hi hl hr4 ho hm hs; omega), by (clear B D_law_cell D_law_draws D_law_satellite D_law_recording D_law_pass hr hS hR hN q eS bS bT hl1 hr1 ho1 hm1 hs1 l1 hr2 ho2 hm2 hs2 hl3 hr3 ho3 hm3 hs3 l3 hi hl hr4 ho hm hs; omega), fun z H3 s3 zok zn => ?_⟩⟩
    have zn' : NameOk z.name := by rw [zn]; exact nameP_ok (by (clear B D_law_cell D_law_draws D_law_satellite D_law_recording D_law_pass hr hS hR q eS eT bS bT hl1 hr1 ho1 hm1 hs1 l1 hl2 hr2 ho2 hm2 hs2 l2 hl3 hr3 ho3 hm3 hs3 l3 hr4 ho hm hs s3 zok zn; omega))
    have sh : (row (gP z)).length ≤ 1700 := short_of (wPasN_wd (nameS_ok (by have := zok.sat; (clear B D_law_cell D_law_draws D_law_satellite D_law_recording D_law_pass hr hS hR hN q eT bS bT hr1 ho1 hm1 hs1 hl2 hr2 ho2 hm2 hs2 l2 hl3 hr3 ho3 hm3 hs3 l3 hi hl hr4 ho hm hs s3 zok zn zn'; omega))) (nameT_ok (by have := zok.sta; (clear B D_law_cell D_law_draws D_law_satellite D_law_recording D_law_pass hr hS hR hN q eS bS bT hl1 hr1 ho1 hm1 hs1 l1 hr2 ho2 hm2 hs2 hl3 hr3 ho3 hm3 hs3 l3 hi hl hr4 ho hm hs s3 zok zn zn'; omega))) zn' zok) (by show 16 ≤ 100; decide)
    refine ⟨_, _, rfl, rfl, hr4.fits (by omega) sh, ?_⟩
    refine ⟨pass ++ [z], some (.int (0 + (i : Int))), y7, ?_, by rw [List.length_append, hl]; rfl, ?_, fun x hx => (List.mem_append.mp hx).elim (ho x) fun e => by rw [List.mem_singleton.mp e]; exact ⟨zok, zn'⟩, ?_, hs.trans s3⟩
    · show _ = ([some (.ref a), some (.int (R : Int)), some (.int (N : Int)), some (.int (1 + u % 2)), some (.int (1 + u2 / 2 % 2)), some (.str (glue (([wHor 40] ++ sats.map wSat ++ stas.map wSta ++ recs.map gR ++ (pass ++ [z]).map gP).map row))), _, _] : L2.St)
      rw [List.map_append (f := gP), ← List.append_assoc, show [z].map gP = [gP z] from rfl, ← glue_add]
      rfl
    · rw [List.map_append, ← List.append_assoc]
      exact hr4.snoc sh
    · rw [List.map_append]
      exact nam_step hm (by rw [List.length_map, hl]) zn
  obtain ⟨pass, y6, y7, rfl, hl4, hr4, ho4, hm4, hs4⟩ := hI
  have l4 : pass.length = N := by (clear B D_law_cell D_law_draws D_law_satellite D_law_recording D_law_pass hr hS hR q eS eT bS bT hl1 hr1 ho1 hm1 hs1 l1 hl2 hr2 ho2 hm2 hs2 l2 hl3 hr3 ho3 hm3 hs3 l3 hr4 ho4 hm4 hs4; omega)
  have cg := worldC_ok (sats := sats) (stas := stas) (recs := recs) (pass := pass) (by (clear B D_law_cell D_law_draws D_law_satellite D_law_recording D_law_pass hr hS hR hN q eT bS bT hr1 ho1 hm1 hs1 hl2 hr2 ho2 hm2 hs2 l2 hl3 hr3 ho3 hm3 hs3 l3 hl4 hr4 ho4 hm4 hs4 l4; omega)) (by (clear B D_law_cell D_law_draws D_law_satellite D_law_recording D_law_pass hr hS hR hN q eS bS bT hl1 hr1 ho1 hm1 hs1 l1 hr2 ho2 hm2 hs2 hl3 hr3 ho3 hm3 hs3 l3 hl4 hr4 ho4 hm4 hs4 l4; omega)) (by (clear B D_law_cell D_law_draws D_law_satellite D_law_recording D_law_pass hr hS hN q eS eT bS bT hl1 hr1 ho1 hm1 hs1 l1 hl2 hr2 ho2 hm2 hs2 l2 hr3 ho3 hm3 hs3 hl4 hr4 ho4 hm4 hs4 l4; omega)) (by (clear B D_law_cell D_law_draws D_law_satellite D_law_recording D_law_pass hr hS hR q eS eT bS bT hl1 hr1 ho1 hm1 hs1 l1 hl2 hr2 ho2 hm2 hs2 l2 hl3 hr3 ho3 hm3 hs3 l3 hr4 ho4 hm4 hs4; omega)) ho1 hm1 ho2 hm2 (by rw [l1]; exact ho3) hm3 (by rw [l1, l2]; exact ho4) hm4
  have g := q ⟨40, sats, stas, recs, pass⟩ H4 hs4 cg l3 l4
  refine ⟨_, rfl, ?_⟩
  unfold textW at g
  rw [linesC hm1 hm2 (fun z hz => (cg.rcs z hz).sat) (fun z hz => ⟨(cg.pss z hz).sat, (cg.pss z hz).sta⟩)] at g
  exact g
end
end DP
namespace DP
open PySem PySem.Spec PyProof.Rows L2
/-- the tuple at a, each item in a new pair with its place -/
def IteT (K : PySem.W.Frag) (a : Addr) (k : Int) : It :=
  ⟨fun i H => ∃ (xs : List V) (x : V), SqT K H a xs ∧ xs[i]? = some x,
   fun i H v H' => ∃ T x, v = .ref T ∧ H T = none ∧ H' = upd H T (.tup [.int (k + (i : Nat)), x]) ∧ ∀ xs, SqT K H a xs → xs[i]? = some x,
   fun i H => ∃ xs : List V, SqT K H a xs ∧ xs.length ≤ i⟩
theorem tup_not_iter {h : Heap} {a it : Addr} {its : Array Value} {i : Nat} (l : h.IsTuple a its) (r : h.IsTupleIter it a i) : a ≠ it := fun z => by
  obtain ⟨o, ho, hc, _⟩ := l
  obtain ⟨o', ho', hc', _⟩ := r
  rw [z, ho'] at ho
  cases ho
  rw [hc] at hc'
  exact absurd hc' (by decide)
theorem turn_enumT {P : Program} {w : World} {K : PySem.W.Frag} {elts : List Expr} {kk : Nat} {tpos : Pos} (a en it : Addr) (k : Int) :
    Turn P w K (.Tuple elts kk tpos) (IteT K a k) [en, it] en (fun i h => (∃ old, IsEnum h en it (k + ((i : Nat) : Int)) old) ∧ h.IsTupleIter it a i ∧ en ≠ it) where
  mem := by simp
  obj := fun i h st b hb => by
    obtain ⟨⟨old, hen⟩, ⟨o, ho, hc, hd⟩, _⟩ := st
    have two : b = en ∨ b = it := by simpa using hb
    rcases two with z | z
    · subst z
      exact ⟨_, hen, fun v q => nomatch q⟩
    · subst z
      exact ⟨o, ho, fun v q => by rw [hd] at q; cases q⟩
  keep := fun i h h' st kp => by
    obtain ⟨⟨old, hen⟩, hi, hne⟩ := st
    exact ⟨⟨old, kp en (by simp) _ hen⟩, hi.at fun o q => kp it (by simp) o q, hne⟩
  item := by
    intro X hP hw hK hc i pins s σ H E I hf st hg
    subst hP hw hK
    obtain ⟨⟨old, hen⟩, hit, hne⟩ := st
    obtain ⟨xs, x, hq, hx⟩ := hg
    obtain ⟨its, rv, p0, hz⟩ := I.tuple hq
    have pl : s.heap.IsTuple a its.toArray := p0
    obtain ⟨u, hu, ru⟩ := rv.get hx
    have en_lt : en < s.heap.objs.size := Heap.lt_size hen
    have it_lt : it < s.heap.objs.size := by
      obtain ⟨_, q, _⟩ := hit
      exact Heap.lt_size q
    have nel := tup_not_iter pl hit
    have Dr := Draws.tuple (prog := X.prog) (w := X.w) (A := X.A.in1) (I.ok.hd hc) it a nel its.toArray
    have hi : i < its.toArray.size := by
      have := (List.getElem?_eq_some_iff.mp hu).1
      simpa using this
    by_cases ea : en = a
    · exfalso
      obtain ⟨o, ho, hc', _⟩ := pl
      rw [← ea, hen] at ho
      cases ho
      have e : Value.type "enumerate" = Value.type "tuple" := hc'
      exact absurd e (by decide)
    refine wpAny_pyNext_enum_itemC Dr hen ⟨hit, pl⟩ hi hne (by simp [hne, ea]) fun x' h' tk hP ho hit' hT hsz hk => ?_
    have ex : x' = u := by
      have e1 : its.toArray[i]? = some x' := hP
      have e2 : its.toArray[i]? = some u := by simpa using hu
      exact Option.some.inj (e1.symm.trans e2)
    subst ex
    refine ⟨_, rfl, wpAny_letOwnedTupleGo_enum (s := { s with heap := h', toks := tk + 1 }) ho fun h2 hen2 sb => ?_⟩
    have hT2 : h2.get? s.heap.objs.size = some { cls := .type "tuple", data := .seq #[.int (k + (i : Int)) tk, x'] } :=
      (sb.2 _ (Nat.ne_of_gt en_lt)).trans hT
    have fresh : H s.heap.objs.size = none := I.hok.fresh (Nat.le_refl _)
    have new : ObjOk X.prog X.w (upd H s.heap.objs.size (.tup [.int (k + (i : Nat)), x])) h2 s.heap.objs.size (.tup [.int (k + (i : Nat)), x]) :=
      ⟨(by show 2 ≤ sizeLine; decide), [.int (k + (i : Int)) tk, x'], .cons ⟨_, rfl⟩ (.cons ru .nil), ⟨_, hT2, rfl, _, rfl⟩⟩
    have keepAll : ∀ b ob, b ∉ [en, it] → s.heap.get? b = some ob → h2.get? b = some ob := fun b ob hb q => by
      have n1 : b ≠ en := fun z => hb (by simp [z])
      have n2 : b ≠ it := fun z => hb (by simp [z])
      exact (sb.2 b n1).trans (hk b ob n1 n2 q)
    have I1 := I.turnedNew (t' := tk + 1) (ch := [en, it]) keepAll hf (Nat.le_refl _) new
    refine ⟨.ref s.heap.objs.size, _, I1, rfl, ⟨_, x, rfl, fresh, rfl, fun ys hy => ?_⟩, ⟨⟨x', ?_⟩, ?_, hne⟩, fun b hb => ?_⟩
    · rw [I.tuple_inj hy hq]
      exact hx
    · have e1 : k + ((i + 1 : Nat) : Int) = k + (i : Int) + 1 := by (clear hc I hf hen hit hne hq hx rv p0 hz pl en_lt it_lt nel Dr hi ea hP ho hit' hT hsz hk hu ru hen2 sb hT2 fresh new keepAll I1; omega)
      rw [e1]
      exact hen2
    · exact hit'.1.at fun o q => (sb.2 it (Ne.symm hne)).trans q
    · have hb' : b < s.heap.objs.size := by
        have two : b = en ∨ b = it := by simpa using hb
        rcases two with z | z
        · rw [z]; exact en_lt
        · rw [z]; exact it_lt
      rw [upd_ne (Nat.ne_of_lt hb')]
      exact (hf b hb).1
  done := by
    intro X hP hw hK hc i pins s σ H E I hf st hg
    subst hP hw hK
    obtain ⟨⟨old, hen⟩, hit, hne⟩ := st
    obtain ⟨xs, hq, hx⟩ := hg
    obtain ⟨its, rv, p0, hz⟩ := I.tuple hq
    have pl : s.heap.IsTuple a its.toArray := p0
    have hl := rv.length
    obtain ⟨f0, f1, f2, f3, f4, f5⟩ := hf it (by simp)
    have hT : s.TypeIs (.ref en) "enumerate" := ⟨_, hen, rfl⟩
    unfold pyNext
    refine wpAny_bind (wpAny_attempt (wpAny_callSpecial?_slot (name := Str.ofString "__next__") hT F.slot_enumerate_next
      (wpAny_call_entry F.slot_enumerate_next hT F.entry_enumerate_next ?_
        (F.args_enumerate_next_1 _))))
    show wpAny _ _ (field (.ref en) 2 >>= _) _ _ _
    refine wpAny_bind (wpAny_field hen rfl (x := .ref it) rfl ?_)
    refine wpAny_bind (wpAny_nextOf_tuple_end (I.ok.hd hc) hit pl (by simp; omega) fun h' e eb hcl => ?_)
    obtain ⟨o, ho, hcs⟩ := hcl
    refine wpAny_bind (wpAny_isInstance (T := "StopIteration") (b := true) ⟨o, ho, hcs⟩ isSubtype_stop ?_)
    exact wpAny_pure ⟨rfl, I.turned (t' := s.toks) (fun b o hb q => eb b o hb q) f0 f1 f3 f4 f5⟩
  self := fun A i s Q E st h => let ⟨⟨_, hen⟩, _⟩ := st; wpAny_pyIter_enum hen h
theorem meets_enum1 {v : Value} {o : Obj} {H : Heap → Prop} (B : Begins v o H) :
    Meets (Builtin.«enumerate.__new__» ⟨[.type "enumerate", v], []⟩) (fun _ R s => H s.heap ∧
      R (.ok (.ret (.ref (s.heap.push o).objs.size))) { s with heap := (s.heap.push o).push { cls := .type "enumerate", data := .fields #[.none, .bool false, .ref s.heap.objs.size, rawInt 0, .none, .none] } }) :=
  .of_wp fun prog w A R s h => by
    obtain ⟨hp, g, d, tk, os⟩ := s
    obtain ⟨h1, h⟩ := h
    have hsub := sub_enumerate
    have q1 : ∀ {A' : Around} {E : Value → Shared → Prop} {Q : Value → Shared → Prop}, Q (.ref hp.objs.size) ⟨hp.push o, g, d, tk, os⟩ → wpAny (model prog w) A' (pyIter v) Q E ⟨hp, g, d, tk, os⟩ :=
      fun q => B.iter prog w _ _ ⟨hp, g, d, tk, os⟩ _ h1 q
    wp_walk using q1
    refine wpAny_stack_any fun st => wpAny_pure ?_
    split
    · rename_i c _ _ _ _ _
      cases (c == Value.type "enumerate")
      · wp_walk using q1
        exact ⟨_, rfl, h⟩
      · wp_walk using q1
        exact ⟨_, rfl, h⟩
    · wp_walk using q1
      exact ⟨_, rfl, h⟩
theorem enum_begins1 {prog : Program} {w : World} {A : Around} {E : Value → Shared → Prop} {s : Shared} {v : Value} {o : Obj} {H : Heap → Prop} {Q : Value → Shared → Prop} (B : Begins v o H) (h1 : H s.heap)
    (h : ∀ h', IsEnum h' (s.heap.objs.size + 1) s.heap.objs.size 0 .none → h'.get? s.heap.objs.size = some o → (∀ b o, s.heap.get? b = some o → h'.get? b = some o) → Q (.ref (s.heap.objs.size + 1)) { s with heap := h' }) :
    wpAny (model prog w) A (call (.type "enumerate") [v]) Q E s := by
  refine callType_new F.called_enumerate (by decide) (F.typeCall_enumerate_1 _) (F.newCall_enumerate_1 _) (fun obj => F.args_object_init_2 obj _) F.entry_enumerate_new (meets_enum1 B) ⟨h1, ?_⟩
  have hz : (s.heap.push o).objs.size = s.heap.objs.size + 1 := Heap.size_push ..
  show _ ∧ _
  rw [hz]
  have hen : IsEnum ((s.heap.push o).push { cls := .type "enumerate", data := .fields #[.none, .bool false, .ref s.heap.objs.size, rawInt 0, .none, .none] }) (s.heap.objs.size + 1) s.heap.objs.size 0 .none := by
    have z := Heap.get?_push_size (s.heap.push o) (o := { cls := .type "enumerate", data := .fields #[.none, .bool false, .ref s.heap.objs.size, rawInt 0, .none, .none] }) rfl
    rw [hz] at z
    exact z
  exact ⟨⟨_, hen, rfl⟩, h _ hen (Heap.get?_push_of_some _ (Heap.get?_push_size _ B.free)) fun b o x => Heap.get?_push_of_some _ (Heap.get?_push_of_some _ x)⟩
def iEnumT (K : PySem.W.Frag) (ta : TA) : TI := fun σ H R => ta σ H fun vs H1 => ∃ a xs, vs = [.ref a] ∧ SqT K H1 a xs ∧ R (IteT K a 0) H1
theorem pi_enumT {X : Cx} {e : Expr} {ta : TA} {p pos tpos : Pos} {elts : List Expr} {kk : Nat} (hg : Gl X "enumerate") (hm : X.mg "enumerate" = none) (ha : PA X [e] ta) (hs : starEach [e] X.env = [(false, eval e X.env)] := by rfl) :
    PI X (.Tuple elts kk tpos) (.Call (.Name "enumerate" p) [e] [] pos) (iEnumT X.K ta) := by
  refine ⟨fun pins s σ H R I h => ?_⟩
  refine Call_ (ld_blt I hg hm boot_enumerate (PyProof.Rows.callWith_type1 (thn (ha.run pos pins s σ H _ I h) fun us s1 ⟨vs, H1, I1, r1, q1⟩ => ?_) hs rfl))
  obtain ⟨a, xs, ex, hq, q⟩ := q1
  subst ex
  obtain ⟨u, eu, ru⟩ := vals1 r1
  subst eu
  cases ru
  obtain ⟨its, rv, p0, hz⟩ := I1.tuple hq
  have pl : s1.heap.IsTuple a its.toArray := p0
  refine enum_begins1 (begins_tuple a its.toArray) pl fun h' hen hit hkp => wpAny_pyIter_enum hen ?_
  have I3 : Inv X pins σ H1 { s1 with heap := h' } := I1.kept (t' := s1.toks) hkp
  refine ⟨s1.heap.objs.size + 1, [s1.heap.objs.size + 1, s1.heap.objs.size], _, _, H1, rfl, I3, turn_enumT a (s1.heap.objs.size + 1) s1.heap.objs.size 0,
    ⟨⟨.none, ?_⟩, ⟨_, hit, rfl, rfl⟩, Nat.succ_ne_self _⟩, fun b hb => ?_, q⟩
  · show IsEnum h' _ _ (0 + 0) _
    rw [Int.add_zero]
    exact hen
  · have two : b = s1.heap.objs.size + 1 ∨ b = s1.heap.objs.size := by simpa using hb
    have hle : s1.heap.objs.size ≤ b := by
      rcases two with z | z
      · rw [z]; exact Nat.le_add_right _ 1
      · rw [z]; exact Nat.le_refl _
    exact I1.fpOk hle (I1.hok.fresh hle)
theorem walk_enumT {K : PySem.W.Frag} {a : Addr} {k : Int} {xs : List V} :
    Walk (IteT K a k) xs.length (fun H => SqT K H a xs) (fun i H v H' => ∃ T x, v = .ref T ∧ H T = none ∧ H' = upd H T (.tup [.int (k + (i : Nat)), x]) ∧ xs[i]? = some x) :=
  ⟨fun i H hi q => ⟨xs, xs[i], q, List.getElem?_eq_getElem hi⟩, fun H q => ⟨xs, q, Nat.le_refl _⟩, fun i H v H' hi q ⟨T, x, e1, e2, e3, e4⟩ => ⟨T, x, e1, e2, e3, e4 xs q⟩⟩
end DP
namespace DP
open PySem PySem.Spec PyProof.Rows L2
def okP (r : RecD) (s : Int) (p : PasD) : Bool := decide ((p.sat : Int) = (r.sat : Int)) && (decide (s + r.length ≤ p.first) && decide (p.fin ≤ r.deadline))
def optAt (P : List PasD) (r : RecD) (s : Int) (k : Nat) : List (Int × Int) := match P[k]? with
  | some p => if okP r s p = true then [(s, (k : Int))] else []
  | none => []
def optS (P : List PasD) (r : RecD) (s : Int) (j : Nat) : List (Int × Int) := (List.range j).flatMap (optAt P r s)
def optR (P : List PasD) (r : RecD) (i : Nat) : List (Int × Int) := (List.range i).flatMap fun (t : Nat) => optS P r (r.earliest + (t : Int)) P.length
def optsW (W : WorldD) (r : RecD) : List (Int × Int) := optR W.pass r (r.latest + 1 - r.earliest).toNat
theorem optS_succ (P : List PasD) (r : RecD) (s : Int) (j : Nat) : optS P r s (j + 1) = optS P r s j ++ optAt P r s j := by
  unfold optS
  rw [List.range_succ, List.flatMap_append, List.flatMap_cons, List.flatMap_nil, List.append_nil]
theorem optR_succ (P : List PasD) (r : RecD) (i : Nat) : optR P r (i + 1) = optR P r i ++ optS P r (r.earliest + (i : Int)) P.length := by
  unfold optR
  rw [List.range_succ, List.flatMap_append, List.flatMap_cons, List.flatMap_nil, List.append_nil]
theorem optAt_len (P : List PasD) (r : RecD) (s : Int) (k : Nat) : (optAt P r s k).length ≤ 1 := by
  unfold optAt
  split
  · split <;> simp
  · exact Nat.zero_le _
theorem optS_len (P : List PasD) (r : RecD) (s : Int) : ∀ j, (optS P r s j).length ≤ j
  | 0 => Nat.zero_le _
  | j + 1 => by
    rw [optS_succ, List.length_append]
    have h1 := optS_len P r s j
    have h2 := optAt_len P r s j
    omega
theorem optR_len (P : List PasD) (r : RecD) : ∀ i, (optR P r i).length ≤ i * P.length
  | 0 => by show 0 ≤ _; exact Nat.zero_le _
  | i + 1 => by
    rw [optR_succ, List.length_append, Nat.succ_mul]
    have h1 := optR_len P r i
    have h2 := optS_len P r (r.earliest + (i : Int)) P.length
    omega
theorem optAt_some {P : List PasD} {r : RecD} {s : Int} {k : Nat} {p : PasD} (h : P[k]? = some p) : optAt P r s k = if okP r s p = true then [(s, (k : Int))] else [] := by
  unfold optAt
  rw [h]
theorem room_opts {W : WorldD} {z : RecD} (ok : RecOk W z) (n : W.pass.length ≤ 10) {i : Nat} (hi : i ≤ (z.latest + 1 - z.earliest).toNat) {j : Nat} (s : Int) : (optR W.pass z i ++ optS W.pass z s j).length ≤ 210 + j := by
  rw [List.length_append]
  have h1 := optR_len W.pass z i
  have h2 := optS_len W.pass z s j
  have h3 := ok.latest
  have h4 : i ≤ 21 := by (clear ok n h1 h2; omega)
  have h5 : i * W.pass.length ≤ 21 * 10 := Nat.mul_le_mul h4 n
  (clear ok n hi h3 h4; omega)
theorem optsW_len {W : WorldD} (wok : WorldOk W) {z : RecD} (ok : RecOk W z) : (optsW W z).length ≤ 210 := by
  have h := room_opts ok wok.nPass (Nat.le_refl _) (j := 0) 0
  rw [List.length_append] at h
  show (optR _ _ _).length ≤ _
  omega
end DP
namespace DP
open PySem PySem.Spec PyProof.Rows L2
mutual
theorem dp_map {K : PySem.W.Frag} {H H' : Hp} (fT : ∀ b xs, SqT K H b xs → SqT K H' b xs) (fL : ∀ b xs, SqL K H b xs → SqL K H' b xs) : ∀ {v : V} {d : PyData}, Dp K H v d → Dp K H' v d
  | _, _, .non => .non
  | _, _, .bl b => .bl b
  | _, _, .int i => .int i
  | _, _, .str x => .str x
  | _, _, .lst h t => .lst (fL _ _ h) (dpAll_map fT fL t)
  | _, _, .tup h t => .tup (fT _ _ h) (dpAll_map fT fL t)
theorem dpAll_map {K : PySem.W.Frag} {H H' : Hp} (fT : ∀ b xs, SqT K H b xs → SqT K H' b xs) (fL : ∀ b xs, SqL K H b xs → SqL K H' b xs) : ∀ {xs : List V} {ds : List PyData}, DpAll K H xs ds → DpAll K H' xs ds
  | _, _, .nil => .nil
  | _, _, .cons a t => .cons (dp_map fT fL a) (dpAll_map fT fL t)
end
theorem dp_same {K : PySem.W.Frag} {H H' : Hp} (s : Same H H') {v : V} {d : PyData} (h : Dp K H v d) : Dp K H' v d := dp_map (fun _ _ => Same.tup s) (fun _ _ => s.seq) h
theorem dpAll_same {K : PySem.W.Frag} {H H' : Hp} (s : Same H H') {xs : List V} {ds : List PyData} (h : DpAll K H xs ds) : DpAll K H' xs ds := dpAll_map (fun _ _ => Same.tup s) (fun _ _ => s.seq) h
mutual
def noL : PyData → Prop
  | .list _ => False
  | .tuple ds => noLs ds
  | _ => True
def noLs : List PyData → Prop
  | [] => True
  | d :: ds => noL d ∧ noLs ds
end
mutual
theorem dpT_map {K : PySem.W.Frag} {H H' : Hp} (fT : ∀ b xs, SqT K H b xs → SqT K H' b xs) : ∀ {v : V} {d : PyData}, noL d → Dp K H v d → Dp K H' v d
  | _, _, _, .non => .non
  | _, _, _, .bl b => .bl b
  | _, _, _, .int i => .int i
  | _, _, _, .str x => .str x
  | _, _, n, .lst h t => False.elim (by unfold noL at n; exact n)
  | _, _, n, .tup h t => .tup (fT _ _ h) (dpTs_map fT (by unfold noL at n; exact n) t)
theorem dpTs_map {K : PySem.W.Frag} {H H' : Hp} (fT : ∀ b xs, SqT K H b xs → SqT K H' b xs) : ∀ {xs : List V} {ds : List PyData}, noLs ds → DpAll K H xs ds → DpAll K H' xs ds
  | _, _, _, .nil => .nil
  | _, _, n, .cons a t => .cons (dpT_map fT (by unfold noLs at n; exact n.1) a) (dpTs_map fT (by unfold noLs at n; exact n.2) t)
end
theorem noLs_map {α : Type} {f : α → PyData} (h : ∀ a, noL (f a)) : ∀ l : List α, noLs (l.map f)
  | [] => by show noLs []; unfold noLs; trivial
  | a :: r => by show noLs (f a :: r.map f); unfold noLs; exact ⟨h a, noLs_map h r⟩
theorem dpAll_snoc {K : PySem.W.Frag} {H : Hp} : ∀ {xs : List V} {ds : List PyData} {x : V} {d : PyData}, DpAll K H xs ds → Dp K H x d → DpAll K H (xs ++ [x]) (ds ++ [d])
  | _, _, _, _, .nil, h => .cons h .nil
  | _, _, _, _, .cons a t, h => .cons a (dpAll_snoc t h)
theorem dpTs_up {K : PySem.W.Frag} {H : Hp} {L : Addr} {ys xs : List V} {ds : List PyData} {o : HO} (n : noLs ds) (e : H L = some (.lst ys)) (h : DpAll K H xs ds) : DpAll K (upd H L o) xs ds := dpTs_map (fun _ _ z => sqT_upd z e) n h
theorem dpT_up {K : PySem.W.Frag} {H : Hp} {L : Addr} {ys : List V} {v : V} {d : PyData} {o : HO} (n : noL d) (e : H L = some (.lst ys)) (h : Dp K H v d) : Dp K (upd H L o) v d := dpT_map (fun _ _ z => sqT_upd z e) n h
theorem dpAll_len {K : PySem.W.Frag} {H : Hp} : ∀ {xs : List V} {ds : List PyData}, DpAll K H xs ds → xs.length = ds.length
  | _, _, .nil => rfl
  | _, _, .cons _ t => by rw [List.length_cons, List.length_cons, dpAll_len t]
theorem dpAll_at {K : PySem.W.Frag} {H : Hp} : ∀ {xs : List V} {ds : List PyData} (i : Nat), DpAll K H xs ds → i < ds.length → ∃ x d, xs[i]? = some x ∧ ds[i]? = some d ∧ Dp K H x d
  | _, _, _, .nil, h => absurd h (Nat.not_lt_zero _)
  | _, _, 0, .cons (v := v) (d := d) a _, _ => ⟨v, d, rfl, rfl, a⟩
  | _, _, i + 1, .cons _ t, h => by
    obtain ⟨x, d, h1, h2, h3⟩ := dpAll_at i t (by rw [List.length_cons] at h; omega)
    exact ⟨x, d, by rw [List.getElem?_cons_succ]; exact h1, by rw [List.getElem?_cons_succ]; exact h2, h3⟩
theorem tyx_tup {K : PySem.W.Frag} {H : Hp} {a : Addr} {xs : List V} (h : SqT K H a xs) : TyX K H (.ref a) (.type "tuple") := by
  rcases h with (h | ⟨o, h⟩) | ⟨o, _, _, h, c, _⟩
  · exact .base (.tup h)
  · exact .fTuple h
  · exact .kTuple h c
theorem dpAll_get {K : PySem.W.Frag} {H : Hp} {α : Type} {f : α → PyData} {xs : List V} {l : List α} {i : Nat} {x : V} (h : DpAll K H xs (l.map f)) (hx : xs[i]? = some x) : ∃ a, l[i]? = some a ∧ Dp K H x (f a) := by
  have hl := dpAll_len h
  have hi : i < xs.length := (List.getElem?_eq_some_iff.mp hx).1
  obtain ⟨y, d, h1, h2, h3⟩ := dpAll_at i h (by rw [← hl]; exact hi)
  rw [hx] at h1
  cases h1
  rw [List.getElem?_map] at h2
  cases e : l[i]? with
  | none => rw [e] at h2; cases h2
  | some a =>
    rw [e] at h2
    have ed : f a = d := Option.some.inj h2
    rw [← ed] at h3
    exact ⟨a, rfl, h3⟩
theorem dpAll_get2 {K : PySem.W.Frag} {H : Hp} {α : Type} {f : α → PyData} {xs : List V} {l : List α} {i : Nat} {a : α} (h : DpAll K H xs (l.map f)) (ha : l[i]? = some a) : ∃ x, xs[i]? = some x ∧ Dp K H x (f a) := by
  have hi : i < (l.map f).length := by
    rw [List.length_map]
    exact (List.getElem?_eq_some_iff.mp ha).1
  obtain ⟨y, d, h1, h2, h3⟩ := dpAll_at i h hi
  rw [List.getElem?_map, ha] at h2
  have ed : f a = d := Option.some.inj h2
  rw [← ed] at h3
  exact ⟨y, h1, h3⟩
theorem dp_tup {K : PySem.W.Frag} {H : Hp} {x : V} {ds : List PyData} (h : Dp K H x (.tuple ds)) : ∃ t xs, x = .ref t ∧ SqT K H t xs ∧ DpAll K H xs ds := by
  cases h with
  | tup h1 h2 => exact ⟨_, _, rfl, h1, h2⟩
theorem dp_ints {K : PySem.W.Frag} {H : Hp} : ∀ {xs : List V} {ns : List Int}, DpAll K H xs (ns.map PyData.int) → xs = ns.map V.int
  | _, [], .nil => rfl
  | _, n :: r, .cons h t => by
    cases h
    rw [dp_ints t]
    rfl
theorem all_snoc {α : Type} {P : α → Prop} {l : List α} {a : α} (h : ∀ x ∈ l, P x) (k : P a) : ∀ x ∈ l ++ [a], P x := fun x hx => by
  rcases List.mem_append.mp hx with hx | hx
  · exact h x hx
  · rw [List.mem_singleton.mp hx]; exact k
theorem sz2_ : 2 ≤ sizeLine := Nat.le_trans (by decide : 2 ≤ 1000) (Nat.le_of_lt (small1000 (Nat.le_refl _)))
end DP
namespace DP
open PySem PySem.Spec PyProof.Rows L2
theorem sz4_ : 4 ≤ sizeLine := Nat.le_trans (by decide : 4 ≤ 1000) (Nat.le_of_lt (small1000 (Nat.le_refl _)))
end DP
namespace DP
open PySem PySem.Spec PyProof.Rows L2
theorem lk_Satellite_store {s : SatD} {t : Addr} : List.lookup ("store" : Str) (satF s t) = some (.int s.store : V) := by unfold satF; repeat (first | exact lk_hit | rw [lk_miss (by decide +kernel)])
theorem lk_Satellite_battery {s : SatD} {t : Addr} : List.lookup ("battery" : Str) (satF s t) = some (.int s.battery : V) := by unfold satF; repeat (first | exact lk_hit | rw [lk_miss (by decide +kernel)])
theorem lk_Satellite_start_level {s : SatD} {t : Addr} : List.lookup ("start_level" : Str) (satF s t) = some (.int s.level : V) := by unfold satF; repeat (first | exact lk_hit | rw [lk_miss (by decide +kernel)])
theorem lk_Satellite_reserve {s : SatD} {t : Addr} : List.lookup ("reserve" : Str) (satF s t) = some (.int s.reserve : V) := by unfold satF; repeat (first | exact lk_hit | rw [lk_miss (by decide +kernel)])
theorem lk_Satellite_charge {s : SatD} {t : Addr} : List.lookup ("charge" : Str) (satF s t) = some (.int s.charge : V) := by unfold satF; repeat (first | exact lk_hit | rw [lk_miss (by decide +kernel)])
theorem lk_Satellite_settle {s : SatD} {t : Addr} : List.lookup ("settle" : Str) (satF s t) = some (.int s.settle : V) := by unfold satF; repeat (first | exact lk_hit | rw [lk_miss (by decide +kernel)])
theorem lk_Satellite_light {s : SatD} {t : Addr} : List.lookup ("light" : Str) (satF s t) = some (.ref t : V) := by unfold satF; repeat (first | exact lk_hit | rw [lk_miss (by decide +kernel)])
theorem lk_Station_antennas {s : StaD} : List.lookup ("antennas" : Str) (staF s) = some (.int s.antennas : V) := by unfold staF; repeat (first | exact lk_hit | rw [lk_miss (by decide +kernel)])
theorem lk_Station_turn {s : StaD} : List.lookup ("turn" : Str) (staF s) = some (.int s.turn : V) := by unfold staF; repeat (first | exact lk_hit | rw [lk_miss (by decide +kernel)])
theorem lk_Recording_satellite {r : RecD} : List.lookup ("satellite" : Str) (recF r) = some (.int (r.sat : Int) : V) := by unfold recF; repeat (first | exact lk_hit | rw [lk_miss (by decide +kernel)])
theorem lk_Recording_earliest {r : RecD} : List.lookup ("earliest" : Str) (recF r) = some (.int r.earliest : V) := by unfold recF; repeat (first | exact lk_hit | rw [lk_miss (by decide +kernel)])
theorem lk_Recording_latest {r : RecD} : List.lookup ("latest" : Str) (recF r) = some (.int r.latest : V) := by unfold recF; repeat (first | exact lk_hit | rw [lk_miss (by decide +kernel)])
theorem lk_Recording_length {r : RecD} : List.lookup ("length" : Str) (recF r) = some (.int r.length : V) := by unfold recF; repeat (first | exact lk_hit | rw [lk_miss (by decide +kernel)])
theorem lk_Recording_size {r : RecD} : List.lookup ("size" : Str) (recF r) = some (.int r.size : V) := by unfold recF; repeat (first | exact lk_hit | rw [lk_miss (by decide +kernel)])
theorem lk_Recording_energy {r : RecD} : List.lookup ("energy" : Str) (recF r) = some (.int r.energy : V) := by unfold recF; repeat (first | exact lk_hit | rw [lk_miss (by decide +kernel)])
theorem lk_Recording_worth {r : RecD} : List.lookup ("worth" : Str) (recF r) = some (.int r.worth : V) := by unfold recF; repeat (first | exact lk_hit | rw [lk_miss (by decide +kernel)])
theorem lk_Recording_rank {r : RecD} : List.lookup ("rank" : Str) (recF r) = some (.int r.rank : V) := by unfold recF; repeat (first | exact lk_hit | rw [lk_miss (by decide +kernel)])
theorem lk_Recording_deadline {r : RecD} : List.lookup ("deadline" : Str) (recF r) = some (.int r.deadline : V) := by unfold recF; repeat (first | exact lk_hit | rw [lk_miss (by decide +kernel)])
theorem lk_Pass_satellite {p : PasD} {t : Addr} : List.lookup ("satellite" : Str) (pasF p t) = some (.int (p.sat : Int) : V) := by unfold pasF; repeat (first | exact lk_hit | rw [lk_miss (by decide +kernel)])
theorem lk_Pass_station {p : PasD} {t : Addr} : List.lookup ("station" : Str) (pasF p t) = some (.int (p.sta : Int) : V) := by unfold pasF; repeat (first | exact lk_hit | rw [lk_miss (by decide +kernel)])
theorem lk_Pass_span {p : PasD} {t : Addr} : List.lookup ("span" : Str) (pasF p t) = some (.ref t : V) := by unfold pasF; repeat (first | exact lk_hit | rw [lk_miss (by decide +kernel)])
theorem lk_Pass_room {p : PasD} {t : Addr} : List.lookup ("room" : Str) (pasF p t) = some (.int p.room : V) := by unfold pasF; repeat (first | exact lk_hit | rw [lk_miss (by decide +kernel)])
theorem lk_Pass_energy {p : PasD} {t : Addr} : List.lookup ("energy" : Str) (pasF p t) = some (.int p.energy : V) := by unfold pasF; repeat (first | exact lk_hit | rw [lk_miss (by decide +kernel)])
theorem lk_Pass_fee {p : PasD} {t : Addr} : List.lookup ("fee" : Str) (pasF p t) = some (.int p.fee : V) := by unfold pasF; repeat (first | exact lk_hit | rw [lk_miss (by decide +kernel)])
theorem lk_World_horizon {u : Str} {h : Int} {t0 t1 t2 t3 : Addr} : List.lookup ("horizon" : Str) (worF u h t0 t1 t2 t3) = some (.int h : V) := by unfold worF; repeat (first | exact lk_hit | rw [lk_miss (by decide +kernel)])
theorem lk_World_satellites {u : Str} {h : Int} {t0 t1 t2 t3 : Addr} : List.lookup ("satellites" : Str) (worF u h t0 t1 t2 t3) = some (.ref t0 : V) := by unfold worF; repeat (first | exact lk_hit | rw [lk_miss (by decide +kernel)])
theorem lk_World_stations {u : Str} {h : Int} {t0 t1 t2 t3 : Addr} : List.lookup ("stations" : Str) (worF u h t0 t1 t2 t3) = some (.ref t1 : V) := by unfold worF; repeat (first | exact lk_hit | rw [lk_miss (by decide +kernel)])
theorem lk_World_recordings {u : Str} {h : Int} {t0 t1 t2 t3 : Addr} : List.lookup ("recordings" : Str) (worF u h t0 t1 t2 t3) = some (.ref t2 : V) := by unfold worF; repeat (first | exact lk_hit | rw [lk_miss (by decide +kernel)])
theorem lk_World_passes {u : Str} {h : Int} {t0 t1 t2 t3 : Addr} : List.lookup ("passes" : Str) (worF u h t0 t1 t2 t3) = some (.ref t3 : V) := by unfold worF; repeat (first | exact lk_hit | rw [lk_miss (by decide +kernel)])
end DP
namespace DP
open PySem PySem.Spec PyProof.Rows L2
inductive EntM where
  | non : EntM
  | opn : EntM
  | at_ (s p : Int) : EntM
inductive EntT where
  | non : EntT
  | opn : EntT
  | ant (n : Int) : EntT
def entM : EntM → PyData
  | .non => .none
  | .opn => .str "open"
  | .at_ s p => .tuple [.int s, .int p]
def entT : EntT → PyData
  | .non => .none
  | .opn => .str "open"
  | .ant n => .int n
theorem noL_entM (e : EntM) : noL (entM e) := by cases e <;> simp [entM, noL, noLs]
theorem noL_entT (e : EntT) : noL (entT e) := by cases e <;> simp [entT, noL]
structure CaseD where
  made : List EntM
  taken : List EntT
def casePy (c : CaseD) : PyData := .tuple [.tuple (c.made.map entM), .tuple (c.taken.map entT)]
def MOk (W : WorldD) (o : Bool) : EntM → Prop
  | .non => True
  | .opn => o = true
  | .at_ s p => 0 ≤ s ∧ s ≤ W.horizon ∧ 0 ≤ p ∧ p < (W.pass.length : Int)
def TOk (o : Bool) : EntT → Prop
  | .non => True
  | .opn => o = true
  | .ant n => 0 ≤ n ∧ n ≤ 5
structure CaseG (W : WorldD) (o : Bool) (c : CaseD) : Prop where
  nM : c.made.length = W.recs.length
  nT : c.taken.length = W.pass.length
  mOk : ∀ e ∈ c.made, MOk W o e
  tOk : ∀ e ∈ c.taken, TOk o e
theorem optsW_mem {W : WorldD} {z : RecD} (ok : RecOk W z) {q : Int × Int} (h : q ∈ optsW W z) : 0 ≤ q.1 ∧ q.1 ≤ W.horizon ∧ 0 ≤ q.2 ∧ q.2 < (W.pass.length : Int) := by
  unfold optsW optR at h
  obtain ⟨i, hi, h⟩ := List.mem_flatMap.mp h
  unfold optS at h
  obtain ⟨k, hk, h⟩ := List.mem_flatMap.mp h
  rw [List.mem_range] at hi hk
  unfold optAt at h
  have h1 := ok.earliest
  have h2 := ok.latest
  split at h
  · split at h
    · have e := List.mem_singleton.mp h
      rw [e]
      dsimp only
      omega
    · exact absurd h List.not_mem_nil
  · exact absurd h List.not_mem_nil
theorem dp_at {K : PySem.W.Frag} {H : Hp} {v : V} {s p : Int} (h : SpanV K H v (s, p)) : Dp K H v (entM (.at_ s p)) := by
  obtain ⟨t, rfl, ht⟩ := h
  exact .tup ht (.cons (.int _) (.cons (.int _) .nil))
end DP
namespace DP
open PySem PySem.Spec PyProof.Rows L2
section
variable {P : Program} {w : World} {K : PySem.W.Frag} {mg : Str → Option Value} {base : Heap} {CL CS CT CR CP CW aS aR fS fT fR fP : Addr}
def spWorldC (K : PySem.W.Frag) (CS CT CR CP CW : Addr) : Sp := fun vs H Q _ => ∃ (a : Addr) (ns : List Int), vs = [.ref a] ∧ SqL K H a (ns.map V.int) ∧ ∀ (ac : Addr) (W : WorldD) (H' : Hp), Same H H' → CG W → WorldAt K CS CT CR CP CW H' ac W → Q (.ref ac) H'
theorem d_worldC (T : TxtW K mg CL CS CT CR CP CW aS aR fS fT fR fP) (D_law_cell : DefOk P w K mg base CX0 1 "_law_cell" ["script", "k"] (spCell K)) (D_law_text : DefOk P w K mg base CX0 3 "_law_text" ["script", "recordings", "passes"] (spTextC K))
    (D_World_parse : SDef P w K mg base CX0 7 CW "parse" ["text"] (spParse K CS CT CR CP CW)) (A : At K mg "_law_world" s__law_world ["script"]) : DefOk P w K mg base CX0 8 "_law_world" ["script"] (spWorldC K CS CT CR CP CW) := by
  have B := T.L.B
  refine A.ok sc__law_world (fun vs H Q E h => ?_) (fun f cdv A outer s H vs Q E hr h => ?_)
  · obtain ⟨a, ns, rfl, _⟩ := h
    rfl
  obtain ⟨a, ns, rfl, hS, q⟩ := h
  refine ⟨_, pss_cons (ps_set (i := 1) sc__law_world.nd rfl (Or.inl rfl) (pe_op op_fdiv (pe_callTy (call_int1) (by rfl) B.int (by decide +kernel) (pa_cons (pe_f D_law_cell (hr.mono (by omega)) pass0 (pa_cons (pv 0) (pa_cons pe_int pa_nil))) pa_nil)) pe_int))
  (pss_one (ps_ret (pe_smeth D_World_parse T.rdW (hr.mono (by omega)) pass0 (pe_ga T.c_World.gC) (pa_cons (pe_f D_law_text (hr.mono (by omega)) pass0 (pa_cons (pv 0) (pa_cons (pe_op op_add pe_int (pe_op op_mod (pv 1) pe_int)) (pa_cons (pe_op op_add pe_int (pe_op op_mod (pe_op op_fdiv (pv 1) pe_int) pe_int)) pa_nil)))) pa_nil))))
    , ?_⟩
  refine ⟨_, rfl, a, ns, 0, rfl, hS, by decide, fun u => .inl ⟨_, rfl, _, _, rfl, rfl, ⟨by decide, by decide⟩, ?_⟩⟩
  obtain ⟨R, eR⟩ : ∃ R : Nat, 1 + u / 4 % 5 = (R : Int) := ⟨(1 + u / 4 % 5).toNat, by omega⟩
  obtain ⟨N, eN⟩ : ∃ N : Nat, 1 + u / 4 / 5 % 4 = (N : Int) := ⟨(1 + u / 4 / 5 % 4).toNat, by (clear T D_law_cell D_law_text D_World_parse B hr hS q eR; omega)⟩
  refine ⟨rfl, _, rfl, _, rfl, _, _, rfl, rfl, (by show (0 : Int) < _; decide), _, _, rfl, rfl, _, rfl, _, _, rfl, rfl, ⟨by decide, by decide⟩, _, _, rfl, rfl, (by show (0 : Int) < _; decide), _, _, rfl, rfl, a, ns, R, N, ?_, hS, by omega, by (clear T D_law_cell D_law_text D_World_parse B hr hS q eR; omega), fun W H1 s1 cg _ _ => ⟨W, rfl, cg.ok, fun ac H2 nA s2 hW => q ac W H2 (s1.trans s2) cg hW⟩⟩
  rw [← eR, ← eN]
  rfl
end
end DP
namespace DP
open PySem PySem.Spec PyProof.Rows L2
abbrev s__law_options : Stmt := topS 86
theorem sc__law_options : FnScope ["world", "r", "recording", "found", "start", "p", "chance"] ["world", "r"] (defScope s__law_options) := ⟨rfl, rfl, rfl, by decide +kernel, rfl, by decide +kernel, by decide +kernel⟩
abbrev s__law_drawn : Stmt := topS 87
theorem sc__law_drawn : FnScope ["world", "cell", "numbers", "made", "r", "options_v", "taken", "p", "chance", "number"] ["world", "cell"] (defScope s__law_drawn) := ⟨rfl, rfl, rfl, by decide +kernel, rfl, by decide +kernel, by decide +kernel⟩
section
variable {P : Program} {w : World} {K : PySem.W.Frag} {mg : Str → Option Value} {base : Heap} {CL CS CT CR CP CW aS aR fS fT fR fP : Addr}
def spOptC (K : PySem.W.Frag) (CS CT CR CP CW : Addr) : Sp := fun vs H Q _ => ∃ (ac : Addr) (W : WorldD) (i : Nat) (z : RecD), vs = [.ref ac, .int (i : Int)] ∧ WorldOk W ∧ WorldAt K CS CT CR CP CW H ac W ∧ W.recs[i]? = some z ∧
  ∀ l xs H', Same H H' → H l = none → H' l = some (.lst xs) → Spans K H' xs (optsW W z) → Q (.ref l) H'
set_option maxHeartbeats 8000000 in
theorem d_optC (T : TxtW K mg CL CS CT CR CP CW aS aR fS fT fR fP) (A : At K mg "_law_options" s__law_options ["world", "r"]) : DefOk P w K mg base CX0 1 "_law_options" ["world", "r"] (spOptC K CS CT CR CP CW) := by
  have B := T.L.B
  refine A.ok sc__law_options (fun vs H Q E h => ?_) (fun f cdv A outer s H vs Q E hr h => ?_)
  · obtain ⟨ac, W, i, z, rfl, _⟩ := h
    rfl
  obtain ⟨ac, W, i, z, rfl, wok, hW, hz, q⟩ := h
  obtain ⟨dx, t0, t1, t2, t3, x0, x1, x2, x3, gw, _, _, _, _, p2, q2, p3, q3⟩ := hW.ex
  have l2 := paired_len q2
  have l3 := paired_len q3
  have hi : i < W.recs.length := (List.getElem?_eq_some_iff.mp hz).1
  obtain ⟨x, hx⟩ : ∃ x, x2[i]? = some x := ⟨_, List.getElem?_eq_getElem (by omega)⟩
  obtain ⟨z', hz', ob, od, rfl, o1⟩ := paired_at q2 hx
  rw [hz] at hz'
  have ez := Option.some.inj hz'
  subst ez
  have ok := wok.recs z (List.mem_of_getElem? hz)
  have nP := wok.nPass
  have k1 := ok.earliest
  have k2 := ok.latest
  have k3 := wok.horizon
  refine ⟨_, pss_cons (ps_set (i := 2) sc__law_options.nd rfl (Or.inl rfl) (pe_ix ix_tup (pe_fld (pv 0) rfl) (pv 1) (fun _ _ => rfl)))
  (pss_cons (ps_set (i := 3) sc__law_options.nd rfl (Or.inl rfl) (pe_lst pa_nil))
  (pss_cons (ps_for PassesOwn.never rfl (pi_range2 (by rfl) B.range (pa_cons (pe_fld (pv 2) rfl) (pa_cons (pe_op op_add (pe_fld (pv 2) rfl) pe_int) pa_nil))) (pg_name (i := 4) sc__law_options.nd rfl (Or.inl rfl))
      (pss_one (ps_for PassesOwn.never rfl (pi_enumT (by rfl) B.enumerate (pa_cons (pe_fld (pv 0) rfl) pa_nil)) (pg_tup (by rfl) (pgs_cons (pg_name (i := 5) sc__law_options.nd rfl (Or.inl rfl)) (pgs_cons (pg_name (i := 6) sc__law_options.nd rfl (Or.inl rfl)) (pgs_nil))))
          (pss_one (ps_if (PW.pt (pw_and (pt_cmpR op_eq (pe_fld (pv 6) rfl) (pe_fld (pv 2) rfl) (nomark _)) (pw_and1 (pt_cmpR op_le (pe_op op_add (pv 4) (pe_fld (pv 2) rfl)) (pe_ix ix_tup (pe_fld (pv 6) rfl) pe_int (fun _ _ => rfl)) (nomark _)))))
              (pss_one (ps_if (pt_cmpR op_le (pe_ix ix_tup (pe_fld (pv 6) rfl) pe_int (fun _ _ => rfl)) (pe_fld (pv 2) rfl) (nomark _))
                  (pss_one (ps_expr (pe_bm PySem.F.plainAttrs_list PySem.F.slot_list_append PySem.F.type_list_append mt_append (pv 3) (pa_cons (pe_tup (pa_cons (pv 4) (pa_cons (pv 5) pa_nil))) pa_nil))))
                  (pss_nil)))
              (pss_nil))))))
  (pss_one (ps_ret (pv 3)))))
    , ?_⟩
  refine ⟨_, rfl, ac, CW, dx, _, _, rfl, gw, T.c_World.cl, T.n_World_recordings, lk_World_recordings, _, rfl, t2, x2, (i : Int), _, rfl, rfl, p2, atI_nat hx, ?_⟩
  refine ⟨Nat.zero_le _, fun D hD => ?_⟩
  have sD := same_new hD (.lst [])
  refine ⟨_, rfl, ob, CR, od, _, _, rfl, sD _ _ o1, T.c_Recording.cl, T.n_Recording_earliest, lk_Recording_earliest, _, rfl, ob, CR, od, _, _, rfl, sD _ _ o1, T.c_Recording.cl, T.n_Recording_latest, lk_Recording_latest, _, _, rfl, rfl, z.earliest, z.latest + 1, rfl, ⟨by (clear T B hr wok hW hz q gw p2 q2 p3 q3 l2 l3 hi hx hz' o1 ok nP k2 k3 hD sD; omega), by (clear T B hr wok hW hz q gw p2 q2 p3 q3 l2 l3 hi hx hz' o1 ok nP k2 hD sD; omega), by (clear T B hr wok hW hz q gw p2 q2 p3 q3 l2 l3 hi hx hz' o1 ok nP k3 hD sD; omega), by (clear T B hr wok hW hz q gw p2 q2 p3 q3 l2 l3 hi hx hz' o1 ok nP k1 hD sD; omega)⟩, ?_⟩
  refine for_range (lo := z.earliest) (n := (z.latest + 1 - z.earliest).toNat) (fun j σ H' => ∃ (xs : List V) (y4 y5 y6 : Option V), σ = [some (.ref ac), some (.int (i : Int)), some (.ref ob), some (.ref D), y4, y5, y6] ∧ H' D = some (.lst xs) ∧ Spans K H' xs (optR W.pass z j) ∧ Same H H')
    ⟨[], none, none, none, rfl, upd_same, (show Spans K _ [] [] from .nil), sD⟩ (fun j σ H1 hj hI => ?_) (fun σ H1 hI => ?_)
  · obtain ⟨xs, y4, y5, y6, rfl, hDD, hsp, hs⟩ := hI
    refine ⟨_, rfl, ac, CW, dx, _, _, rfl, hs _ _ gw, T.c_World.cl, T.n_World_passes, lk_World_passes, t3, x3, rfl, Same.tup hs p3, ?_⟩
    refine for_it (walk_enumT (xs := x3)) (fun k σ H' => ∃ (xs : List V) (y5 y6 : Option V), σ = [some (.ref ac), some (.int (i : Int)), some (.ref ob), some (.ref D), some (.int (z.earliest + (j : Int))), y5, y6] ∧ H' D = some (.lst xs) ∧
      Spans K H' xs (optR W.pass z j ++ optS W.pass z (z.earliest + (j : Int)) k) ∧ Same H H') ⟨xs, _, _, rfl, hDD, by show Spans K H1 xs (optR W.pass z j ++ []); rw [List.append_nil]; exact hsp, hs⟩ (fun k σ H2 _ hI => ?_) (fun k v σ H2 H3 hk hI hy => ?_) (fun σ H2 hI => ?_)
    · obtain ⟨xs, y5, y6, rfl, _, _, hs⟩ := hI
      exact Same.tup hs p3
    · obtain ⟨xs, y5, y6, rfl, hDD, hsp, hs⟩ := hI
      obtain ⟨tp, v, rfl, htp, rfl, hv⟩ := hy
      obtain ⟨c, hc, pb, pd, ts, rfl, c1, c2⟩ := paired_at q3 hv
      have sA := hs.trans (same_new htp (.tup [.int (0 + (k : Nat)), .ref pb]))
      have hDA := same_new htp (.tup [.int (0 + (k : Nat)), .ref pb]) _ _ hDD
      have hspA := hsp.same (same_new htp (.tup [.int (0 + (k : Nat)), .ref pb]))
      have hll := paired_len hsp
      have hrm := room_opts ok nP (Nat.le_of_lt hj) (j := k) (z.earliest + (j : Int))
      have kl : k ≤ 10 := by (clear T B hr wok hW hz q gw p2 q2 p3 q3 l2 hi hx hz' o1 ok k1 k2 k3 hD sD hj hDD hsp hs htp hc hv c1 c2 sA hDA hspA hll hrm; omega)
      refine ⟨tp, _, rfl, SqT.of upd_same, rfl, _, _, rfl, _, _, rfl, rfl, ?_⟩
      generalize (upd H2 tp (.tup [.int (0 + (k : Nat)), .ref pb])) = H4 at sA hDA hspA
      have ea := optAt_some (r := z) (s := z.earliest + (j : Int)) hc
      have no : okP z (z.earliest + (j : Int)) c = false → Spans K H4 xs (optR W.pass z j ++ optS W.pass z (z.earliest + (j : Int)) (k + 1)) := fun e => by
        rw [optS_succ, ea, e, if_neg Bool.false_ne_true, List.append_nil]
        exact hspA
      refine ⟨_, rfl, pb, CP, pd, _, _, rfl, sA _ _ c1, T.c_Pass.cl, T.n_Pass_satellite, lk_Pass_satellite, _, rfl, ob, CR, od, _, _, rfl, sA _ _ o1, T.c_Recording.cl, T.n_Recording_satellite, lk_Recording_satellite, rfl, _, rfl, ite2 (fun e1 => ?_) (fun e1 => iteF ?_)⟩
      · refine ⟨_, rfl, _, rfl, ob, CR, od, _, _, rfl, sA _ _ o1, T.c_Recording.cl, T.n_Recording_length, lk_Recording_length, _, _, rfl, rfl, _, rfl, pb, CP, pd, _, _, rfl, sA _ _ c1, T.c_Pass.cl, T.n_Pass_span, lk_Pass_span, ts, _, 0, _, rfl, rfl, Same.tup sA c2, rfl, _, _, rfl, rfl, _, rfl, ite2 (fun e2 => ?_) (fun e2 => ?_)⟩
        · refine ⟨_, rfl, pb, CP, pd, _, _, rfl, sA _ _ c1, T.c_Pass.cl, T.n_Pass_span, lk_Pass_span, ts, _, 1, _, rfl, rfl, Same.tup sA c2, rfl, _, rfl, ob, CR, od, _, _, rfl, sA _ _ o1, T.c_Recording.cl, T.n_Recording_deadline, lk_Recording_deadline, _, _, rfl, rfl, _, rfl, ite2 (fun e3 => ?_) (fun e3 => ?_)⟩
          · refine ⟨_, rfl, .inl ⟨rfl, _, SqL.of hDA⟩, _, rfl, _, rfl, sz2_, fun t ht => ?_⟩
            have sB := same_new ht (.tup [.int (z.earliest + (j : Int)), .int (0 + (k : Nat))])
            refine ⟨D, xs, .ref t, rfl, rfl, sB _ _ hDA, by rw [hll]; exact small1000 (by (clear T B hr wok hW hz q gw p2 q2 p3 q3 l2 hi hx hz' o1 ok k1 k2 k3 hD sD hj hDD hsp hs htp hc hv c1 c2 hll sA hDA hspA ea no e1 e2 e3 ht sB; omega)), ?_⟩
            have yes : okP z (z.earliest + (j : Int)) c = true := by
              unfold okP
              rw [show decide ((c.sat : Int) = (z.sat : Int)) = true from decide_eq_true (V.int.inj (of_decide_eq_true e1)), show decide (z.earliest + (j : Int) + z.length ≤ c.first) = true from e2, show decide (c.fin ≤ z.deadline) = true from e3]
              rfl
            refine ⟨xs ++ [.ref t], _, _, rfl, upd_same, ?_, same_at hD (sA.trans sB) _⟩
            rw [optS_succ, ea, yes, if_pos rfl, ← List.append_assoc]
            exact Spans.upd (paired_snoc (hspA.same sB) ⟨t, rfl, SqT.of (by rw [upd_same, Int.zero_add])⟩) (sB _ _ hDA)
          · refine ⟨xs, _, _, rfl, hDA, no ?_, sA⟩
            unfold okP
            rw [show decide (c.fin ≤ z.deadline) = false from Bool.eq_false_iff.mpr e3, Bool.and_false, Bool.and_false]
        · refine ⟨xs, _, _, rfl, hDA, no ?_, sA⟩
          unfold okP
          rw [show decide (z.earliest + (j : Int) + z.length ≤ c.first) = false from Bool.eq_false_iff.mpr e2, Bool.false_and, Bool.and_false]
      · refine ⟨xs, _, _, rfl, hDA, no ?_, sA⟩
        unfold okP
        rw [show decide ((c.sat : Int) = (z.sat : Int)) = false from decide_eq_false fun q => e1 (decide_eq_true (by rw [q])), Bool.false_and]
    · obtain ⟨xs, y5, y6, rfl, hDD, hsp, hs⟩ := hI
      rw [l3, ← optR_succ] at hsp
      exact ⟨xs, _, _, _, rfl, hDD, hsp, hs⟩
  · obtain ⟨xs, y4, y5, y6, rfl, hDD, hsp, hs⟩ := hI
    exact ⟨_, rfl, q D xs _ hs hD hDD hsp⟩
/-- a plan of options, antennas -/
def MDr (W : WorldD) (i : Nat) : EntM → Prop
  | .non => True
  | .opn => False
  | .at_ s p => ∀ z, W.recs[i]? = some z → (s, p) ∈ optsW W z
def TDr (W : WorldD) (i : Nat) : EntT → Prop
  | .non => True
  | .opn => False
  | .ant n => 0 ≤ n ∧ ∀ p t, W.pass[i]? = some p → W.stas[p.sta]? = some t → n < t.antennas
structure DrawG (W : WorldD) (c : CaseD) : Prop where
  cg : CaseG W false c
  opt : ∀ i e, c.made[i]? = some e → MDr W i e
  ant : ∀ i e, c.taken[i]? = some e → TDr W i e
theorem at_snoc {α : Type} {l : List α} {a x : α} {i : Nat} (h : (l ++ [a])[i]? = some x) : l[i]? = some x ∨ (i = l.length ∧ x = a) := by
  by_cases c : i < l.length
  · rw [List.getElem?_append_left c] at h
    exact .inl h
  · rw [List.getElem?_append_right (by omega)] at h
    have hi : i - l.length = 0 := by
      have := (List.getElem?_eq_some_iff.mp h).1
      rw [List.length_singleton] at this
      (clear h c; omega)
    rw [hi] at h
    exact .inr ⟨by omega, (Option.some.inj h).symm⟩
def spDrawn (K : PySem.W.Frag) (CS CT CR CP CW : Addr) : Sp := fun vs H Q _ => ∃ (ac : Addr) (W : WorldD) (c : Int), vs = [.ref ac, .int c] ∧ WorldOk W ∧ WorldAt K CS CT CR CP CW H ac W ∧ ∀ v H' c, Same H H' → DrawG W c → Dp K H' v (casePy c) → Q v H'
set_option maxHeartbeats 8000000 in
theorem d_drawn (T : TxtW K mg CL CS CT CR CP CW aS aR fS fT fR fP) (D_law_draws : DefOk P w K mg base CX0 1 "_law_draws" ["cell", "count"] spDrawsC) (D_law_options : DefOk P w K mg base CX0 1 "_law_options" ["world", "r"] (spOptC K CS CT CR CP CW))
    (A : At K mg "_law_drawn" s__law_drawn ["world", "cell"]) : DefOk P w K mg base CX0 2 "_law_drawn" ["world", "cell"] (spDrawn K CS CT CR CP CW) := by
  have B := T.L.B
  refine A.ok sc__law_drawn (fun vs H Q E h => ?_) (fun f cdv A outer s H vs Q E hr h => ?_)
  · obtain ⟨ac, W, c, rfl, _⟩ := h
    rfl
  obtain ⟨ac, W, c, rfl, wok, hW, q⟩ := h
  have hW0 := hW
  obtain ⟨dx, t0, t1, t2, t3, x0, x1, x2, x3, gw, p0, q0, p1, q1, p2, q2, p3, q3⟩ := hW.ex
  have l1 := paired_len q1
  have l2 := paired_len q2
  have l3 := paired_len q3
  have nR := wok.nRecs
  have nP := wok.nPass
  refine ⟨_, pss_cons (ps_set (i := 2) sc__law_drawn.nd rfl (Or.inl rfl) (pe_f D_law_draws (hr.mono (by omega)) pass0 (pa_cons (pv 1) (pa_cons (pe_op op_add (pe_op op_add (pe_op op_mul pe_int (pe_callB (call_len_seq) (by rfl) B.len (by decide +kernel) (pa_cons (pe_fld (pv 0) rfl) pa_nil))) (pe_callB (call_len_seq) (by rfl) B.len (by decide +kernel) (pa_cons (pe_fld (pv 0) rfl) pa_nil))) pe_int) pa_nil))))
  (pss_cons (ps_set (i := 3) sc__law_drawn.nd rfl (Or.inl rfl) (pe_lst pa_nil))
  (pss_cons (ps_for PassesOwn.never rfl (pi_range1 (by rfl) B.range (pa_cons (pe_callB (call_len_seq) (by rfl) B.len (by decide +kernel) (pa_cons (pe_fld (pv 0) rfl) pa_nil)) pa_nil)) (pg_name (i := 4) sc__law_drawn.nd rfl (Or.inl rfl))
      (pss_cons (ps_set (i := 5) sc__law_drawn.nd rfl (Or.inl rfl) (pe_f D_law_options (hr.mono (by omega)) pass0 (pa_cons (pv 0) (pa_cons (pv 4) pa_nil))))
      (pss_one (ps_if (PW.pt (pw_or (pt_cmpR op_eq (pe_callB (call_len_seq) (by rfl) B.len (by decide +kernel) (pa_cons (pv 5) pa_nil)) pe_int (nomark _)) (pw_or1 (pt_cmpR op_eq (pe_op op_mod (pe_ix ix_list (pv 2) (pe_op op_mul pe_int (pv 4)) (fun _ _ => rfl)) pe_int) pe_int (nomark _)))))
          (pss_one (ps_expr (pe_bm PySem.F.plainAttrs_list PySem.F.slot_list_append PySem.F.type_list_append mt_append (pv 3) (pa_cons pe_non pa_nil))))
          (pss_one (ps_expr (pe_bm PySem.F.plainAttrs_list PySem.F.slot_list_append PySem.F.type_list_append mt_append (pv 3) (pa_cons (pe_ix ix_list (pv 5) (pe_op op_mod (pe_ix ix_list (pv 2) (pe_op op_add (pe_op op_mul pe_int (pv 4)) pe_int) (fun _ _ => rfl)) (pe_callB (call_len_seq) (by rfl) B.len (by decide +kernel) (pa_cons (pv 5) pa_nil))) (fun _ _ => rfl)) pa_nil))))))))
  (pss_cons (ps_set (i := 6) sc__law_drawn.nd rfl (Or.inl rfl) (pe_lst pa_nil))
  (pss_cons (ps_for PassesOwn.never rfl (pi_enumT (by rfl) B.enumerate (pa_cons (pe_fld (pv 0) rfl) pa_nil)) (pg_tup (by rfl) (pgs_cons (pg_name (i := 7) sc__law_drawn.nd rfl (Or.inl rfl)) (pgs_cons (pg_name (i := 8) sc__law_drawn.nd rfl (Or.inl rfl)) (pgs_nil))))
      (pss_cons (ps_set (i := 9) sc__law_drawn.nd rfl (Or.inl rfl) (pe_ix ix_list (pv 2) (pe_op op_add (pe_op op_mul pe_int (pe_callB (call_len_seq) (by rfl) B.len (by decide +kernel) (pa_cons (pv 3) pa_nil))) (pv 7)) (fun _ _ => rfl)))
      (pss_one (ps_expr (pe_bm PySem.F.plainAttrs_list PySem.F.slot_list_append PySem.F.type_list_append mt_append (pv 6) (pa_cons (pe_ifExp (pt_cmpR op_eq (pe_op op_mod (pv 9) pe_int) pe_int (nomark _)) pe_non (pe_op op_mod (pe_op op_fdiv (pv 9) pe_int) (pe_fld (pe_ix ix_tup (pe_fld (pv 0) rfl) (pe_fld (pv 8) rfl) (fun _ _ => rfl)) rfl))) pa_nil))))))
  (pss_one (ps_ret (pe_tup (pa_cons (pe_callTy (call_tuple_of) (by rfl) B.tuple (by decide +kernel) (pa_cons (pv 3) pa_nil)) (pa_cons (pe_callTy (call_tuple_of) (by rfl) B.tuple (by decide +kernel) (pa_cons (pv 6) pa_nil)) pa_nil)))))))))
    , ?_⟩
  refine ⟨_, rfl, _, rfl, ac, CW, dx, _, _, rfl, gw, T.c_World.cl, T.n_World_recordings, lk_World_recordings, t2, x2, rfl, .inr p2, _, _, rfl, rfl, .inl ⟨by decide, by decide⟩, _, rfl, ac, CW, dx, _, _, rfl, gw, T.c_World.cl, T.n_World_passes, lk_World_passes, t3, x3, rfl, .inr p3, _, _, rfl, rfl, _, _, rfl, rfl, c, 2 * x2.length + x3.length + 1, ?_, by (clear T D_law_draws D_law_options B hr wok hW q hW0 gw p0 q0 p1 q1 p2 q2 p3 q3 l1; omega), fun np ds H1 s1 n1 hl hp => ?_⟩
  · show [V.int c, V.int (2 * (x2.length : Int) + (x3.length : Int) + 1)] = [V.int c, V.int ((2 * x2.length + x3.length + 1 : Nat) : Int)]
    rw [show (2 * (x2.length : Int) + (x3.length : Int) + 1) = ((2 * x2.length + x3.length + 1 : Nat) : Int) by (clear T D_law_draws D_law_options B hr wok hW q hW0 gw p0 q0 p1 q1 p2 q2 p3 q3 l1 l2 l3 nR nP; omega)]
  refine ⟨Nat.zero_le _, fun D hD => ?_⟩
  have sD := s1.trans (same_new hD (.lst []))
  have nD := s1.free hD
  have hpD := same_new hD (.lst []) _ _ hp
  have nDp : np ≠ D := ne_of_none hp hD
  refine ⟨_, rfl, ac, CW, dx, _, _, rfl, sD _ _ gw, T.c_World.cl, T.n_World_recordings, lk_World_recordings, t2, x2, rfl, .inr (Same.tup sD p2), _, rfl, by (clear T D_law_draws D_law_options B hr wok hW q hW0 gw p0 q0 p1 q1 p2 q2 p3 q3 l1 l3 nP s1 n1 hl hp hD sD nD hpD nDp; omega), by (clear T D_law_draws D_law_options B hr wok hW q hW0 gw p0 q0 p1 q1 p2 q2 p3 q3 l1 l3 nP s1 n1 hl hp hD sD nD hpD nDp; omega), ?_⟩
  refine for_range (lo := 0) (n := (x2.length : Int).toNat) (fun i σ H' => ∃ (es : List EntM) (xs : List V) (y4 y5 : Option V), σ = [some (.ref ac), some (.int c), some (.ref np), some (.ref D), y4, y5, none, none, none, none] ∧
    H' D = some (.lst xs) ∧ H' np = some (.lst (ds.map V.int)) ∧ xs.length = i ∧ DpAll K H' xs (es.map entM) ∧ (∀ e ∈ es, MOk W false e) ∧ (∀ i e, es[i]? = some e → MDr W i e) ∧ es.length = i ∧ Same H H') ⟨[], [], none, none, rfl, upd_same, hpD, rfl, .nil, fun _ z => absurd z List.not_mem_nil, fun i e h => (nomatch h), rfl, sD⟩ (fun i σ H2 hi hI => ?_) (fun σ H2 hI => ?_)
  · obtain ⟨es, xs, y4, y5, rfl, hDD, hpp, hxl, hdp, hok, hop, hel, hs⟩ := hI
    have hi' : i < W.recs.length := by (clear T D_law_draws D_law_options B hr wok hW q hW0 gw p0 q0 p1 q1 p2 q2 p3 q3 l1 l3 nR nP s1 n1 hl hp hD sD nD hpD nDp hDD hpp hdp hok hop hs; omega)
    obtain ⟨z, hz1⟩ : ∃ z, W.recs[i]? = some z := ⟨_, List.getElem?_eq_getElem hi'⟩
    have ok := wok.recs z (List.mem_of_getElem? hz1)
    refine ⟨_, rfl, _, rfl, ac, W, i, z, by rw [Int.zero_add]; rfl, wok, hW.same hs, hz1, fun l ls H3 s3 hl0 hl3 hx => ?_⟩
    have t3' := hs.trans s3
    have lls := paired_len hx
    have lop := optsW_len wok ok
    have hD3 := s3 _ _ hDD
    have hp3 := s3 _ _ hpp
    have num : ∀ j : Nat, j < ds.length → ∃ v, ds[j]? = some v := fun j hj => ⟨_, List.getElem?_eq_getElem hj⟩
    have add : ∀ (e : EntM) (v : V), MOk W false e → MDr W i e → Dp K H3 v (entM e) → ∃ (es' : List EntM) (xs' : List V) (y4 y5 : Option V), ([some (.ref ac), some (.int c), some (.ref np), some (.ref D), some (.int (0 + (i : Int))), some (.ref l), none, none, none, none] : L2.St) = [some (.ref ac), some (.int c), some (.ref np), some (.ref D), y4, y5, none, none, none, none] ∧
        (upd H3 D (.lst (xs ++ [v]))) D = some (.lst xs') ∧ (upd H3 D (.lst (xs ++ [v]))) np = some (.lst (ds.map V.int)) ∧ xs'.length = i + 1 ∧ DpAll K (upd H3 D (.lst (xs ++ [v]))) xs' (es'.map entM) ∧ (∀ e ∈ es', MOk W false e) ∧ (∀ i e, es'[i]? = some e → MDr W i e) ∧ es'.length = i + 1 ∧ Same H (upd H3 D (.lst (xs ++ [v]))) := fun e v eok eop edp => by
      refine ⟨es ++ [e], xs ++ [v], _, _, rfl, upd_same, by rw [upd_ne nDp]; exact hp3, by rw [List.length_append, List.length_singleton, hxl], ?_, all_snoc hok eok, fun j x hj => ?_, by rw [List.length_append, List.length_singleton, hel], same_at nD t3' _⟩
      · rw [List.map_append]
        exact dpAll_snoc (dpTs_up (noLs_map noL_entM es) hD3 (dpAll_same s3 hdp)) (dpT_up (noL_entM e) hD3 edp)
      · rcases at_snoc hj with h | ⟨h1, h2⟩
        · exact hop j x h
        · rw [h1, h2, hel]
          exact eop
    have non : ∀ (R : VK) (D2 : Ends), True := fun _ _ => True.intro
    refine ⟨_, rfl, l, ls, rfl, .inl (SqL.of hl3), rfl, _, rfl, ite2 (fun k1 => iteT ?_) (fun k1 => ?_)⟩
    · exact ⟨_, rfl, .inl ⟨rfl, _, SqL.of hD3⟩, D, xs, .non, rfl, rfl, hD3, small1000 (by (clear T D_law_draws D_law_options B hr wok hW q hW0 gw p0 q0 p1 q1 p2 q2 p3 q3 l1 l3 nP s1 n1 hl hp hD sD nD hpD nDp hi hDD hpp hdp hok hop hs hz1 ok s3 hl0 hl3 hx t3' lls lop hD3 hp3 num add non k1; omega)), add .non .non True.intro True.intro .non⟩
    · obtain ⟨v1, hv1⟩ := num (2 * i) (by (clear T D_law_draws D_law_options B hr wok hW q hW0 gw p0 q0 p1 q1 p2 q2 p3 q3 l1 nR s1 n1 hp hD sD nD hpD nDp hi hDD hpp hdp hok hop hs hz1 ok s3 hl0 hl3 hx t3' lls lop hD3 hp3 num add non k1; omega))
      have g1 : (ds.map V.int)[2 * i]? = some (.int v1) := by rw [List.getElem?_map, hv1]; rfl
      have e1 : (2 : Int) * (0 + (i : Int)) = ((2 * i : Nat) : Int) := by (clear T D_law_draws D_law_options B hr wok hW q hW0 gw p0 q0 p1 q1 p2 q2 p3 q3 l1 l2 l3 nR nP s1 n1 hl hp hD sD nD hpD nDp hi hDD hpp hxl hdp hok hop hel hs hi' hz1 ok s3 hl0 hl3 hx t3' lls lop hD3 hp3 num add non k1 hv1 g1; omega)
      refine ⟨_, rfl, _, rfl, _, _, rfl, rfl, .inl ⟨by decide, by decide⟩, np, _, _, _, rfl, rfl, SqL.of hp3, (by rw [e1]; exact atI_nat g1), _, _, rfl, rfl, (by show (0 : Int) < _; decide), rfl, _, rfl, ite2 (fun k2 => ?_) (fun k2 => ?_)⟩
      · exact ⟨_, rfl, .inl ⟨rfl, _, SqL.of hD3⟩, D, xs, .non, rfl, rfl, hD3, small1000 (by (clear T D_law_draws D_law_options B hr wok hW q hW0 gw p0 q0 p1 q1 p2 q2 p3 q3 l1 l3 nP s1 n1 hl hp hD sD nD hpD nDp hi hDD hpp hdp hok hop hs hz1 ok s3 hl0 hl3 hx t3' lls lop hD3 hp3 num add non k1 hv1 g1 e1 k2; omega)), add .non .non True.intro True.intro .non⟩
      · have pos : 0 < ls.length := by
          cases ls with
          | nil => exact absurd (by rfl : decide (V.int (([] : List V).length : Int) = V.int 0) = true) k1
          | cons _ _ => exact Nat.succ_pos _
        obtain ⟨v2, hv2⟩ := num (2 * i + 1) (by (clear T D_law_draws D_law_options B hr wok hW q hW0 gw p0 q0 p1 q1 p2 q2 p3 q3 l1 nR s1 n1 hp hD sD nD hpD nDp hi hDD hpp hdp hok hop hs hz1 ok s3 hl0 hl3 hx t3' lls lop hD3 hp3 num add non k1 hv1 g1 e1 k2 pos; omega))
        have g2 : (ds.map V.int)[2 * i + 1]? = some (.int v2) := by rw [List.getElem?_map, hv2]; rfl
        have e2 : (2 : Int) * (0 + (i : Int)) + 1 = ((2 * i + 1 : Nat) : Int) := by (clear T D_law_draws D_law_options B hr wok hW q hW0 gw p0 q0 p1 q1 p2 q2 p3 q3 l1 l2 l3 nR nP s1 n1 hl hp hD sD nD hpD nDp hi hDD hpp hxl hdp hok hop hel hs hi' hz1 ok s3 hl0 hl3 hx t3' lls lop hD3 hp3 num add non k1 hv1 g1 e1 k2 pos hv2 g2; omega)
        have r0 : 0 ≤ v2 % (ls.length : Int) := Int.emod_nonneg _ (by (clear T D_law_draws D_law_options B hr wok hW q hW0 gw p0 q0 p1 q1 p2 q2 p3 q3 l1 l2 l3 nR nP s1 n1 hl hp hD sD nD hpD nDp hi hDD hpp hxl hdp hok hop hel hs hi' hz1 ok s3 hl0 hl3 hx t3' hD3 hp3 num add non k1 hv1 g1 e1 k2 hv2 g2 e2; omega))
        have r1 : v2 % (ls.length : Int) < (ls.length : Int) := Int.emod_lt_of_pos _ (by (clear T D_law_draws D_law_options B hr wok hW q hW0 gw p0 q0 p1 q1 p2 q2 p3 q3 l1 l2 l3 nR nP s1 n1 hl hp hD sD nD hpD nDp hi hDD hpp hxl hdp hok hop hel hs hi' hz1 ok s3 hl0 hl3 hx t3' hD3 hp3 num add non k1 hv1 g1 e1 k2 hv2 g2 e2 r0; omega))
        obtain ⟨j, ej⟩ : ∃ j : Nat, v2 % (ls.length : Int) = (j : Int) := ⟨(v2 % (ls.length : Int)).toNat, by (clear T D_law_draws D_law_options B hr wok hW q hW0 gw p0 q0 p1 q1 p2 q2 p3 q3 l1 l2 l3 nR nP s1 n1 hl hp hD sD nD hpD nDp hi hDD hpp hxl hdp hok hop hel hs hi' hz1 ok s3 hl0 hl3 hx t3' lls lop hD3 hp3 num add non k1 hv1 g1 e1 k2 pos hv2 g2 e2 r1; omega)⟩
        obtain ⟨x, hxj⟩ : ∃ x, ls[j]? = some x := ⟨_, List.getElem?_eq_getElem (by (clear T D_law_draws D_law_options B hr wok hW q hW0 gw p0 q0 p1 q1 p2 q2 p3 q3 l1 l2 l3 nR nP s1 n1 hl hp hD sD nD hpD nDp hi hDD hpp hxl hdp hok hop hel hs hi' hz1 ok s3 hl0 hl3 hx t3' lop hD3 hp3 num add non k1 hv1 g1 e1 k2 pos hv2 g2 e2 r0; omega))⟩
        obtain ⟨y, hy, sp⟩ := paired_at hx hxj
        have hm := optsW_mem ok (List.mem_of_getElem? hy)
        refine ⟨_, rfl, .inl ⟨rfl, _, SqL.of hD3⟩, _, rfl, _, rfl, _, rfl, _, _, rfl, rfl, .inl ⟨by decide, by decide⟩, _, _, rfl, rfl, np, _, _, _, rfl, rfl, SqL.of hp3, (by rw [e2]; exact atI_nat g2), _, rfl, l, ls, rfl, .inl (SqL.of hl3), _, _, rfl, rfl, (by show (0 : Int) < (ls.length : Int); (clear T D_law_draws D_law_options B hr wok hW q hW0 gw p0 q0 p1 q1 p2 q2 p3 q3 l1 l2 l3 nR nP s1 n1 hl hp hD sD nD hpD nDp hi hDD hpp hxl hdp hok hop hel hs hi' hz1 ok s3 hl0 hl3 hx t3' hD3 hp3 num add non k1 hv1 g1 e1 k2 hv2 g2 e2 r0 r1 ej hxj hy sp hm; omega)), l, ls, _, x, rfl, rfl, SqL.of hl3, (by rw [ej]; exact atI_nat hxj), D, xs, x, rfl, rfl, hD3, small1000 (by (clear T D_law_draws D_law_options B hr wok hW q hW0 gw p0 q0 p1 q1 p2 q2 p3 q3 l1 l3 nP s1 n1 hl hp hD sD nD hpD nDp hi hDD hpp hdp hok hop hs hz1 ok s3 hl0 hl3 hx t3' lls lop hD3 hp3 num add non k1 hv1 g1 e1 k2 pos hv2 g2 e2 r0 r1 ej hxj hy sp hm; omega)), ?_⟩
        exact add (.at_ y.1 y.2) x hm (fun z' hz' => by rw [hz1] at hz'; cases hz'; exact List.mem_of_getElem? hy) (dp_at sp)
  · obtain ⟨es, xs, y4, y5, rfl, hDD, hpp, hxl, hdp, hok, hop, hel, hs⟩ := hI
    refine ⟨Nat.zero_le _, fun F hF => ?_⟩
    have sF := same_new hF (.lst [])
    have nF : D ≠ F := ne_of_none hDD hF
    have nFp : np ≠ F := ne_of_none hpp hF
    refine ⟨_, rfl, ac, CW, dx, _, _, rfl, (hs.trans sF) _ _ gw, T.c_World.cl, T.n_World_passes, lk_World_passes, t3, x3, rfl, Same.tup (hs.trans sF) p3, ?_⟩
    refine for_it (walk_enumT (xs := x3)) (fun i σ H' => ∃ (fs : List EntT) (ys : List V) (y7 y8 y9 : Option V), σ = [some (.ref ac), some (.int c), some (.ref np), some (.ref D), y4, y5, some (.ref F), y7, y8, y9] ∧
      H' F = some (.lst ys) ∧ H' np = some (.lst (ds.map V.int)) ∧ ys.length = i ∧ DpAll K H' ys (fs.map entT) ∧ (∀ e ∈ fs, TOk false e) ∧ (∀ i e, fs[i]? = some e → TDr W i e) ∧ fs.length = i ∧ Same H2 H') ⟨[], [], none, none, none, rfl, upd_same, sF _ _ hpp, rfl, .nil, fun _ z => absurd z List.not_mem_nil, fun i e h => (nomatch h), rfl, sF⟩ (fun i σ H' _ hI => ?_) (fun i v σ H3 H4 hi hI hy => ?_) (fun σ H3 hI => ?_)
    · obtain ⟨fs, ys, y7, y8, y9, rfl, _, _, _, _, _, _, _, hq⟩ := hI
      exact Same.tup (hs.trans hq) p3
    · obtain ⟨fs, ys, y7, y8, y9, rfl, hFF, hpp, hyl, hdq, hok2, hop2, hfl, hq⟩ := hI
      obtain ⟨tp, v, rfl, htp, rfl, hv⟩ := hy
      obtain ⟨z, hz1, pb, pd, ts, rfl, c1, c2⟩ := paired_at q3 hv
      have zok := wok.pass z (List.mem_of_getElem? hz1)
      have sT := same_new htp (.tup [.int (0 + (i : Nat)), .ref pb])
      have sA := (hs.trans hq).trans sT
      have hFA := sT _ _ hFF
      have hpA := sT _ _ hpp
      have hdA := dpAll_same sT hdq
      have sQ := hq.trans sT
      obtain ⟨zt, hzt⟩ : ∃ zt, W.stas[z.sta]? = some zt := ⟨_, List.getElem?_eq_getElem zok.sta⟩
      have okt := wok.stas zt (List.mem_of_getElem? hzt)
      have ant := okt.antennas
      obtain ⟨xt, hxt⟩ : ∃ x, x1[z.sta]? = some x := ⟨_, List.getElem?_eq_getElem (by rw [l1]; exact zok.sta)⟩
      obtain ⟨zt', hzt', ta, td, rfl, g1⟩ := paired_at q1 hxt
      rw [hzt] at hzt'
      have ez := Option.some.inj hzt'
      subst ez
      refine ⟨tp, _, rfl, SqT.of upd_same, rfl, _, _, rfl, _, _, rfl, rfl, ?_⟩
      generalize (upd H3 tp (.tup [.int (0 + (i : Nat)), .ref pb])) = H5 at sA hFA hpA hdA sQ
      obtain ⟨v1, hv1⟩ : ∃ v, ds[2 * x2.length + i]? = some v := ⟨_, List.getElem?_eq_getElem (by (clear T D_law_draws D_law_options B hr wok hW q hW0 gw p0 q0 p1 q1 p2 q2 p3 q3 l1 nR nP s1 n1 hp hD sD nD hpD nDp hDD hxl hdp hok hop hel hs hF sF nF nFp hFF hpp hdq hok2 hop2 hq htp hz1 hv c1 c2 zok sT hzt okt ant hxt hzt' g1 sA hFA hpA hdA sQ; omega))⟩
      have g2 : (ds.map V.int)[2 * x2.length + i]? = some (.int v1) := by rw [List.getElem?_map, hv1]; rfl
      have hDA := sQ _ _ hDD
      have e1 : (2 : Int) * (xs.length : Int) + (0 + (i : Int)) = ((2 * x2.length + i : Nat) : Int) := by (clear T D_law_draws D_law_options B hr wok hW q hW0 gw p0 q0 p1 q1 p2 q2 p3 q3 l1 l3 nP s1 n1 hl hp hD sD nD hpD nDp hDD hdp hok hop hs hF sF nF nFp hi hFF hpp hyl hdq hok2 hop2 hfl hq htp hz1 hv c1 c2 zok sT hzt okt ant hxt hzt' g1 sA hFA hpA hdA sQ hv1 g2 hDA; omega)
      have add : ∀ (e : EntT) (v : V), TOk false e → TDr W i e → Dp K H5 v (entT e) → ∃ (fs' : List EntT) (ys' : List V) (y7 y8 y9 : Option V), ([some (.ref ac), some (.int c), some (.ref np), some (.ref D), y4, y5, some (.ref F), some (.int (0 + (i : Nat))), some (.ref pb), some (.int v1)] : L2.St) = [some (.ref ac), some (.int c), some (.ref np), some (.ref D), y4, y5, some (.ref F), y7, y8, y9] ∧
          (upd H5 F (.lst (ys ++ [v]))) F = some (.lst ys') ∧ (upd H5 F (.lst (ys ++ [v]))) np = some (.lst (ds.map V.int)) ∧ ys'.length = i + 1 ∧ DpAll K (upd H5 F (.lst (ys ++ [v]))) ys' (fs'.map entT) ∧ (∀ e ∈ fs', TOk false e) ∧ (∀ i e, fs'[i]? = some e → TDr W i e) ∧ fs'.length = i + 1 ∧ Same H2 (upd H5 F (.lst (ys ++ [v]))) := fun e v eok eop edp => by
        refine ⟨fs ++ [e], ys ++ [v], _, _, _, rfl, upd_same, by rw [upd_ne nFp]; exact hpA, by rw [List.length_append, List.length_singleton, hyl], ?_, all_snoc hok2 eok, fun j x hj => ?_, by rw [List.length_append, List.length_singleton, hfl], same_at hF sQ _⟩
        · rw [List.map_append]
          exact dpAll_snoc (dpTs_up (noLs_map noL_entT fs) hFA hdA) (dpT_up (noL_entT e) hFA edp)
        · rcases at_snoc hj with h | ⟨h1, h2⟩
          · exact hop2 j x h
          · rw [h1, h2, hfl]
            exact eop
      refine ⟨_, rfl, _, rfl, D, xs, rfl, .inl (SqL.of hDA), _, _, rfl, rfl, .inl ⟨by decide, by decide⟩, _, rfl, _, _, rfl, rfl, np, _, _, _, rfl, rfl, SqL.of hpA, (by rw [e1]; exact atI_nat g2), ?_⟩
      refine ⟨_, rfl, .inl ⟨rfl, _, SqL.of hFA⟩, _, rfl, _, _, rfl, rfl, (by show (0 : Int) < _; decide), rfl, _, rfl, ite2 (fun k1 => ?_) (fun k1 => ?_)⟩
      · exact ⟨F, ys, .non, rfl, rfl, hFA, small1000 (by omega), add .non .non True.intro True.intro .non⟩
      · have a0 : 0 ≤ v1 / 3 % zt.antennas := Int.emod_nonneg _ (by (clear T D_law_draws D_law_options B hr wok hW q hW0 gw p0 q0 p1 q1 p2 q2 p3 q3 l1 l2 l3 nR nP s1 n1 hl hp hD sD nD hpD nDp hDD hxl hdp hok hop hel hs hF sF nF nFp hi hFF hpp hyl hdq hok2 hop2 hfl hq htp hz1 hv c1 c2 zok sT hzt okt hxt hzt' g1 sA hFA hpA hdA sQ hv1 g2 hDA e1 add k1; omega))
        have a1 : v1 / 3 % zt.antennas < zt.antennas := Int.emod_lt_of_pos _ (by (clear T D_law_draws D_law_options B hr wok hW q hW0 gw p0 q0 p1 q1 p2 q2 p3 q3 l1 l2 l3 nR nP s1 n1 hl hp hD sD nD hpD nDp hDD hxl hdp hok hop hel hs hF sF nF nFp hi hFF hpp hyl hdq hok2 hop2 hfl hq htp hz1 hv c1 c2 zok sT hzt okt hxt hzt' g1 sA hFA hpA hdA sQ hv1 g2 hDA e1 add k1 a0; omega))
        refine ⟨_, rfl, _, _, rfl, rfl, ⟨by decide, by decide⟩, _, rfl, ac, CW, dx, _, _, rfl, sA _ _ gw, T.c_World.cl, T.n_World_stations, lk_World_stations, _, rfl, pb, CP, pd, _, _, rfl, sA _ _ c1, T.c_Pass.cl, T.n_Pass_station, lk_Pass_station, t1, x1, (z.sta : Int), _, rfl, rfl, Same.tup sA p1, atI_nat hxt, ta, CT, td, _, _, rfl, sA _ _ g1, T.c_Station.cl, T.n_Station_antennas, lk_Station_antennas, _, _, rfl, rfl, (by show (0 : Int) < zt.antennas; (clear T D_law_draws D_law_options B hr wok hW q hW0 gw p0 q0 p1 q1 p2 q2 p3 q3 l1 l2 l3 nR nP s1 n1 hl hp hD sD nD hpD nDp hDD hxl hdp hok hop hel hs hF sF nF nFp hi hFF hpp hyl hdq hok2 hop2 hfl hq htp hz1 hv c1 c2 zok sT hzt okt hxt hzt' g1 sA hFA hpA hdA sQ hv1 g2 hDA e1 add k1 a0 a1; omega)), F, ys, _, rfl, rfl, hFA, small1000 (by omega), ?_⟩
        refine add (.ant (v1 / 3 % zt.antennas)) (.int (v1 / 3 % zt.antennas)) ⟨a0, by (clear T D_law_draws D_law_options B hr wok hW q hW0 gw p0 q0 p1 q1 p2 q2 p3 q3 l1 l2 l3 nR nP s1 n1 hl hp hD sD nD hpD nDp hDD hxl hdp hok hop hel hs hF sF nF nFp hi hFF hpp hyl hdq hok2 hop2 hfl hq htp hz1 hv c1 c2 zok sT hzt okt hxt hzt' g1 sA hFA hpA hdA sQ hv1 g2 hDA e1 add k1 a0; omega)⟩ ⟨a0, fun p t hp ht => ?_⟩ (.int _)
        rw [hz1] at hp
        cases hp
        rw [hzt] at ht
        cases ht
        exact a1
    · obtain ⟨fs, ys, y7, y8, y9, rfl, hFF, hpp, hyl, hdq, hok2, hop2, hfl, hq⟩ := hI
      refine ⟨_, rfl, D, xs, rfl, .inl ⟨SqL.of (hq _ _ hDD), fun t1 ht1 => ?_⟩⟩
      have v1 := same_new ht1 (.tup xs)
      refine ⟨_, rfl, F, ys, rfl, .inl ⟨SqL.of (v1 _ _ hFF), fun t2 ht2 => ⟨sz2_, fun t3 ht3 => ?_⟩⟩⟩
      have v2 := same_new ht2 (.tup ys)
      have v3 := same_new ht3 (.tup [.ref t1, .ref t2])
      refine q (.ref t3) _ ⟨es, fs⟩ (hs.trans (hq.trans (v1.trans (v2.trans v3)))) ⟨⟨by show es.length = _; (clear T D_law_draws D_law_options B hr wok hW q hW0 gw p0 q0 p1 q1 p2 q2 p3 q3 l1 l3 nP s1 n1 hl hp hD sD nD hpD nDp hDD hdp hok hop hs hF sF nF nFp hFF hpp hyl hdq hok2 hop2 hfl hq ht1 v1 ht2 ht3 v2 v3; omega), by show fs.length = _; (clear T D_law_draws D_law_options B hr wok hW q hW0 gw p0 q0 p1 q1 p2 q2 p3 q3 l1 nR nP s1 n1 hp hD sD nD hpD nDp hDD hxl hdp hok hop hel hs hF sF nF nFp hFF hpp hdq hok2 hop2 hq ht1 v1 ht2 ht3 v2 v3; omega), hok, hok2⟩, hop, hop2⟩ ?_
      exact .tup (SqT.of upd_same) (.cons (.tup (SqT.of ((v2.trans v3) _ _ upd_same)) (dpAll_same (hq.trans (v1.trans (v2.trans v3))) hdp)) (.cons (.tup (SqT.of (v3 _ _ upd_same)) (dpAll_same (v1.trans (v2.trans v3)) hdq)) .nil))
end
end DP
namespace DP
open PySem PySem.Spec PyProof.Rows L2
theorem case_two {K : PySem.W.Frag} {H : Hp} {v : V} {c : CaseD} (h : Dp K H v (casePy c)) : ∃ t tm tt xm xt, v = .ref t ∧ SqT K H t [.ref tm, .ref tt] ∧ SqT K H tm xm ∧ SqT K H tt xt ∧ DpAll K H xm (c.made.map entM) ∧ DpAll K H xt (c.taken.map entT) ∧ xm.length = c.made.length ∧ xt.length = c.taken.length := by
  obtain ⟨t, xs, rfl, ht, hx⟩ := dp_tup h
  cases hx with
  | cons a0 hx =>
  cases hx with
  | cons a1 hx =>
  cases hx
  obtain ⟨tm, xm, rfl, hm, hxm⟩ := dp_tup a0
  obtain ⟨tt, xt, rfl, htt, hxt⟩ := dp_tup a1
  have lm := dpAll_len hxm
  have lt := dpAll_len hxt
  rw [List.length_map] at lm lt
  exact ⟨t, tm, tt, xm, xt, rfl, ht, hm, htt, hxm, hxt, lm, lt⟩
end DP
namespace DP
open PySem PySem.Spec PyProof.Rows L2
def gStar (K : PySem.W.Frag) (i : Nat) (t : TGs) : TG := fun v σ H Q => ∃ a xs, v = .ref a ∧ SqT K H a xs ∧ i ≤ xs.length ∧ xs.length ≤ 1000 ∧ ∀ D, H D = none → t (xs.take i ++ [.ref D]) σ (upd H D (.lst (xs.drop i))) Q
section
variable {X : Cx}
theorem pgs_consS {e : Expr} {es : List Expr} {t : TG} {u : TGs} {p : Pos} (h1 : PG X e t) (h2 : PGs X es u)
    (hs : (assignEach (.Starred e p :: es) X.env).map (·.2) = assign e X.env :: (assignEach es X.env).map (·.2) := by rfl) : PGs X (.Starred e p :: es) (gCons t u) := by
  refine ⟨fun pins s σ H vs us Q I r h => ?_⟩
  obtain ⟨v, vr, e1, h⟩ := h
  subst e1
  cases r with
  | cons r rr =>
    rw [hs]
    refine assignInOrder_cons (thn (h1.run pins s σ H _ _ _ I r h) fun _ s1 ⟨σ1, H1, I1, q1⟩ => ?_)
    exact h2.run pins s1 σ1 H1 _ _ Q I1 rr q1
theorem vals_take : ∀ {xs : List V} {us : List Value} (i : Nat), Vals xs us → Vals (xs.take i) (us.take i)
  | _, _, 0, _ => .nil
  | _, _, _ + 1, .nil => .nil
  | _, _, i + 1, .cons r t => .cons r (vals_take i t)
theorem vals_drop : ∀ {xs : List V} {us : List Value} (i : Nat), Vals xs us → Vals (xs.drop i) (us.drop i)
  | _, _, 0, h => h
  | _, _, _ + 1, .nil => .nil
  | _, _, i + 1, .cons _ t => vals_drop i t
theorem vals_snoc : ∀ {xs : List V} {us : List Value} {x : V} {u : Value}, Vals xs us → RelV x u → Vals (xs ++ [x]) (us ++ [u])
  | _, _, _, _, .nil, h => .cons h .nil
  | _, _, _, _, .cons r t, h => .cons r (vals_snoc t h)
theorem unpack_star {prog : Program} {w : World} {A : Around} {E : Value → Shared → Prop} {s : Shared} {l : Addr} {items : Array Value} {i : Nat} {Q : List Value → Shared → Prop} (hl : IsTup s.heap l items) (hh : A.handled = none) (hi : i ≤ items.size) (hz : items.size ≤ 1000)
    (h : ∀ (h' : Heap) (tk : Nat), (∀ b o, s.heap.get? b = some o → h'.get? b = some o) → Q (items.toList.take i ++ [.ref h'.objs.size]) { s with heap := h'.push { cls := .type "list", data := .seq (items.toList.drop i).toArray }, toks := tk }) : wpAny (model prog w) A (unpackItems (.ref l) (i + 1) (some i)) Q E s := by
  have hlt : l ≠ s.heap.objs.size := by obtain ⟨o, ho, _⟩ := hl; exact Nat.ne_of_lt (Heap.lt_size ho)
  unfold unpackItems
  refine wpAny_bind ?_
  unfold notIterableAtAll
  refine wpAny_bind (wpAny_specialOf hl.typeIs slot_tuple_iter.lookup ?_)
  refine wpAny_pure ?_
  simp only [Bool.false_eq_true, if_false]
  refine wpAny_bind (wpAny_holding (iter_tuple hl ?_))
  refine wpAny_bind (wpAny_holding (draw_tuple hlt i 0 _ _ ⟨_, Heap.get?_push_size _ rfl, rfl, rfl⟩ (hl.push _) (by omega) fun h₁ hit₁ hs₁ => ?_))
  have hl₁ : IsTup h₁ l items := (hl.push _).extBut hs₁.extBut hlt
  rw [Nat.zero_add] at hit₁
  have hit₁' := hit₁
  obtain ⟨oi, hoi, _⟩ := hit₁'
  have hl₁' := hl₁
  obtain ⟨ol, hol, _⟩ := hl₁'
  rw [List.drop_zero]
  have hfl : (items.toList.take i).length = i := by rw [List.length_take, Array.length_toList]; omega
  rw [if_neg (show ¬ ((items.toList.take i).length < i) by rw [hfl]; omega)]
  refine wpAny_bind (wpAny_holding (PySem.W.kun_collect (s := { s with heap := h₁ }) (T := "tuple_iterator") (.inr (.inr (.inr rfl))) (Walks.tuple (A := A.in1) hh s.heap.objs.size l hlt items) (fun j u st => st.1.typeIs) (k := i) (by omega) ⟨hit₁, hl₁⟩ (Heap.lt_size hoi) (Heap.lt_size hol) (fun h₂ tk hk => ?_) (by rw [sizeLine_eq]; omega)))
  have hrl : (items.toList.drop i).length = items.size - i := by rw [List.length_drop, Array.length_toList]
  show wpAny _ _ (if (items.toList.drop i).length < i + 1 - 1 - i then _ else _) _ _ _
  rw [if_neg (by (clear hl hh hi hz h hlt hit₁ hs₁ hl₁ hoi hol hfl hk; omega))]
  have hmid : (items.toList.drop i).length - (i + 1 - 1 - i) = (items.toList.drop i).length := by omega
  show wpAny _ _ (newList ((items.toList.drop i).take ((items.toList.drop i).length - (i + 1 - 1 - i))) >>= fun d => pure (items.toList.take i ++ [d] ++ (items.toList.drop i).drop ((items.toList.drop i).length - (i + 1 - 1 - i)))) _ _ _
  rw [hmid, List.take_length, List.drop_length]
  refine wpAny_bind (wpAny_newList (s := { s with heap := h₂, toks := tk }) (wpAny_pure ?_))
  rw [List.append_nil]
  exact h h₂ tk fun b o e => hk b o (Nat.ne_of_lt (Heap.lt_size e)) (hs₁.extBut b o (Nat.ne_of_lt (Heap.lt_size e)) (Heap.get?_push_of_some _ e))
theorem pg_star {pos : Pos} {es : List Expr} {k : Nat} {t : TGs} {i : Nat} (hc : X.calm = true) (h : PGs X es t)
    (hn : (assignEach es X.env).length = i + 1 := by rfl) (hst : (assignEach es X.env).findIdx? (·.1) = some i := by rfl) : PG X (.Tuple es k pos) (gStar X.K i t) := by
  refine ⟨fun pins s σ H v u Q I r hw => ?_⟩
  obtain ⟨a, xs, e1, hq, hl, hl2, hw⟩ := hw
  subst e1
  cases r
  obtain ⟨its, rv, ht, hz⟩ := I.tuple hq
  have el : its.length = xs.length := rv.length.symm
  rw [PyProof.Rows.assign_Tuple]
  refine wpAny_bind (wpAny_standAt ?_)
  unfold unpack
  rw [hn, hst]
  refine wpAny_bind (wpAny_holding (unpack_star ht (I.ok.hd hc) (by simp; (clear hc h hn hst I hq hl2 hw rv ht hz; omega)) (by simp; (clear hc h hn hst I hq hl hw rv ht hz; omega)) fun h' tk hx => ?_))
  have I1 : Inv X pins σ H { s with heap := h', toks := tk } := I.kept (t' := tk) hx
  have hf : H h'.objs.size = none := I1.hok.fresh (Nat.le_refl _)
  have I2 : Inv X pins σ (upd H h'.objs.size (.lst (xs.drop i))) { s with heap := h'.push { cls := .type "list", data := .seq (its.drop i).toArray }, toks := tk } := by
    refine I1.laid (t' := tk) (fun b u e => Heap.get?_push_of_some _ e) (Nat.le_refl _) ?_
    exact ⟨by rw [List.length_drop]; exact small (by (clear hc h hn hst I hq hw rv ht hz hx I1 hf; omega)), its.drop i, 0, vals_drop i rv, Heap.get?_push_size _ rfl⟩
  refine h.run pins _ σ _ _ _ Q (by simpa using I2) ?_ (hw _ hf)
  simpa using vals_snoc (vals_take i rv) (show RelV (.ref h'.objs.size) (.ref h'.objs.size) from rfl)
end
end DP
namespace DP
open PySem PySem.Spec PyProof.Rows L2
theorem ip_mul {X : Cx} : PIp X .Mult (rI CMul fun i j => .int (i * j)) := iop_mul
end DP
namespace DP
open PySem PySem.Spec PyProof.Rows L2
abbrev s_base_of : Stmt := topS 69
theorem sc_base_of : FnScope ["world", "worths", "fees", "recording", "chance"] ["world"] (defScope s_base_of) := ⟨rfl, rfl, rfl, by decide +kernel, rfl, by decide +kernel, by decide +kernel⟩
abbrev s_recording_weight : Stmt := topS 70
theorem sc_recording_weight : FnScope ["world", "r", "recording", "base", "weight", "_"] ["world", "r"] (defScope s_recording_weight) := ⟨rfl, rfl, rfl, by decide +kernel, rfl, by decide +kernel, by decide +kernel⟩
def sumW (W : WorldD) : Int := (W.recs.map (·.worth)).sum
def sumF (W : WorldD) : Int := (W.pass.map (·.fee)).sum
def baseW (W : WorldD) : Int := 1 + (if sumF W > sumW W then sumF W else sumW W)
def recW (W : WorldD) (z : RecD) : Int := z.worth * baseW W ^ (4 - z.rank).toNat
theorem sum_bound {α : Type} {f : α → Int} {m : Int} (hm : 0 ≤ m) : ∀ {l : List α}, (∀ a ∈ l, 0 ≤ f a ∧ f a ≤ m) → 0 ≤ (l.map f).sum ∧ (l.map f).sum ≤ m * l.length
  | [], _ => by
    show (0 : Int) ≤ 0 ∧ (0 : Int) ≤ m * ((0 : Nat) : Int)
    simp
  | a :: l, h => by
    have ih := sum_bound hm (l := l) fun b hb => h b (List.mem_cons_of_mem _ hb)
    have h1 := h a List.mem_cons_self
    rw [List.map_cons, List.sum_cons, List.length_cons, show m * ((l.length + 1 : Nat) : Int) = m * (l.length : Int) + m by rw [Int.natCast_add, Int.mul_add]; simp]
    omega
theorem base_pos {W : WorldD} (wok : WorldOk W) : 1 ≤ baseW W ∧ baseW W ≤ 10001 ∧ sumW W < baseW W ∧ sumF W < baseW W ∧ 0 ≤ sumW W ∧ 0 ≤ sumF W := by
  have h1 : 0 ≤ sumW W ∧ sumW W ≤ 1000 * (W.recs.length : Int) := sum_bound (f := fun z : RecD => z.worth) (by decide) fun z hz => by have := (wok.recs z hz).worth; omega
  have h2 : 0 ≤ sumF W ∧ sumF W ≤ 1000 * (W.pass.length : Int) := sum_bound (f := fun z : PasD => z.fee) (by decide) fun z hz => by have := (wok.pass z hz).fee; omega
  have h3 := wok.nRecs
  have h4 := wok.nPass
  unfold baseW
  split <;> omega
theorem take_map_succ {α : Type} {f : α → Int} {l : List α} {i : Nat} {a : α} (h : l[i]? = some a) : (l.take (i + 1)).map f = (l.take i).map f ++ [f a] := by
  rw [List.take_add_one, h, Option.toList_some, List.map_append]
  rfl
section
variable {P : Program} {w : World} {K : PySem.W.Frag} {mg : Str → Option Value} {base : Heap} {CL CS CT CR CP CW aS aR fS fT fR fP : Addr}
/-- one more in the new list of a comprehension -/
theorem lc_step {α : Type} {f : α → Int} {l : List α} {i : Nat} {a : α} {H0 H' : Hp} {D : Addr} (h : l[i]? = some a) (n : l.length ≤ 1000) (hD : H0 D = none) (hs : Same H0 H') (hd : H' D = some (.lst (((l.take i).map f).map V.int))) :
    ∃ acc, H' D = some (.lst acc) ∧ acc.length < sizeLine ∧ Same H0 (upd H' D (.lst (acc ++ [.int (f a)]))) ∧ (upd H' D (.lst (acc ++ [.int (f a)]))) D = some (.lst (((l.take (i + 1)).map f).map V.int)) := by
  have hi := (List.getElem?_eq_some_iff.mp h).1
  refine ⟨_, hd, by rw [List.length_map, List.length_map, List.length_take]; exact small1000 (by omega), same_at hD hs _, ?_⟩
  rw [upd_same, take_map_succ h, List.map_append]
  rfl
def spBase (K : PySem.W.Frag) (CS CT CR CP CW : Addr) : Sp := fun vs H Q _ => ∃ (ac : Addr) (W : WorldD), vs = [.ref ac] ∧ WorldOk W ∧ WorldAt K CS CT CR CP CW H ac W ∧ ∀ H', Same H H' → Q (.int (baseW W)) H'
theorem d_base_of (T : TxtW K mg CL CS CT CR CP CW aS aR fS fT fR fP) (A : At K mg "base_of" s_base_of ["world"]) : DefOk P w K mg base CX0 1 "base_of" ["world"] (spBase K CS CT CR CP CW) := by
  have B := T.L.B
  refine A.ok sc_base_of (fun vs H Q E h => ?_) (fun f cdv A outer s H vs Q E hr h => ?_)
  · obtain ⟨ac, W, rfl, _⟩ := h
    rfl
  obtain ⟨ac, W, rfl, wok, hW, q⟩ := h
  obtain ⟨dx, t0, t1, t2, t3, x0, x1, x2, x3, gw, _, _, _, _, p2, q2, p3, q3⟩ := hW.ex
  have l2 := paired_len q2
  have l3 := paired_len q3
  have nR := wok.nRecs
  have nP := wok.nPass
  refine ⟨_, pss_cons (ps_set (i := 1) sc_base_of.nd rfl (Or.inl rfl) (pe_callB (cr_sum rfl) (by rfl) B.sum (by decide +kernel) (pa_cons (pe_lc (own := [("recording", 3)])  rfl sc_base_of.nd (pi_tup (pe_fld (pv 0) rfl)) (blkOk_by (own := [("recording", 3)]) (N := ["world", "worths", "fees", "recording", "chance"]) (sc := defScope s_base_of) (by decide +kernel)) (fun _ _ _ _ _ => pg_name (i := 3) sc_base_of.nd rfl (Or.inl rfl)) (fun _ _ _ _ _ => pts_nil) (fun _ _ _ _ _ => (pe_fldK (K := K) rfl (pv 3) rfl))) pa_nil)))
  (pss_cons (ps_set (i := 2) sc_base_of.nd rfl (Or.inl rfl) (pe_callB (cr_sum rfl) (by rfl) B.sum (by decide +kernel) (pa_cons (pe_lc (own := [("chance", 4)])  rfl sc_base_of.nd (pi_tup (pe_fld (pv 0) rfl)) (blkOk_by (own := [("chance", 4)]) (N := ["world", "worths", "fees", "recording", "chance"]) (sc := defScope s_base_of) (by decide +kernel)) (fun _ _ _ _ _ => pg_name (i := 4) sc_base_of.nd rfl (Or.inl rfl)) (fun _ _ _ _ _ => pts_nil) (fun _ _ _ _ _ => (pe_fldK (K := K) rfl (pv 4) rfl))) pa_nil)))
  (pss_one (ps_ret (pe_op op_add pe_int (pe_callB (call_max2 rfl) (by rfl) B.max (by decide +kernel) (pa_cons (pv 1) (pa_cons (pv 2) pa_nil)))))))
    , ?_⟩
  refine ⟨_, rfl, ac, CW, dx, _, _, rfl, gw, T.c_World.cl, T.n_World_recordings, lk_World_recordings, t2, rfl, ⟨_, p2⟩, fun D hD => lc_tup (K := K) (a := t2) (xs := x2) (fun i H' => Same H H' ∧ H' D = some (.lst (((W.recs.take i).map (·.worth)).map V.int))) ⟨same_new hD _, upd_same⟩ (fun i H' _ hI => Same.tup hI.1 p2) (fun i x H' hx hI => ?_) (fun H1 hI => ?_)⟩
  · obtain ⟨hs, hd⟩ := hI
    obtain ⟨z, hz, ob, od, rfl, o1⟩ := paired_at q2 hx
    exact ⟨rfl, _, rfl, ob, CR, od, _, _, rfl, hs _ _ o1, T.c_Recording.cl, T.n_Recording_worth, lk_Recording_worth, lc_step hz (by omega) hD hs hd⟩
  obtain ⟨s1, hd⟩ := hI
  rw [l2, List.take_length] at hd
  refine ⟨D, W.recs.map (·.worth), rfl, SqL.of hd, ?_⟩
  refine ⟨_, rfl, ac, CW, dx, _, _, rfl, s1 _ _ gw, T.c_World.cl, T.n_World_passes, lk_World_passes, t3, rfl, ⟨_, Same.tup s1 p3⟩, fun F hF => lc_tup (K := K) (a := t3) (xs := x3) (fun i H' => Same H1 H' ∧ H' F = some (.lst (((W.pass.take i).map (·.fee)).map V.int))) ⟨same_new hF _, upd_same⟩ (fun i H' _ hI => Same.tup (s1.trans hI.1) p3) (fun i x H' hx hI => ?_) (fun H2 hI => ?_)⟩
  · obtain ⟨hs, hd⟩ := hI
    obtain ⟨z, hz, pb, pd, ts, rfl, c1, c2⟩ := paired_at q3 hx
    exact ⟨rfl, _, rfl, pb, CP, pd, _, _, rfl, (s1.trans hs) _ _ c1, T.c_Pass.cl, T.n_Pass_fee, lk_Pass_fee, lc_step hz (by (clear T B hr wok hW q gw p2 q2 p3 q3 l2 nR hD s1 hF hs hd hz hx c1 c2; omega)) hF hs hd⟩
  obtain ⟨s2, hd⟩ := hI
  rw [l3, List.take_length] at hd
  refine ⟨F, W.pass.map (·.fee), rfl, SqL.of hd, ?_⟩
  exact ⟨_, rfl, _, rfl, _, _, rfl, _, _, rfl, rfl, q _ (s1.trans s2)⟩
def spRecW (K : PySem.W.Frag) (CS CT CR CP CW : Addr) : Sp := fun vs H Q _ => ∃ (ac : Addr) (W : WorldD) (i : Nat) (z : RecD), vs = [.ref ac, .int (i : Int)] ∧ WorldOk W ∧ WorldAt K CS CT CR CP CW H ac W ∧ W.recs[i]? = some z ∧ ∀ H', Same H H' → Q (.int (recW W z)) H'
theorem d_recording_weight (T : TxtW K mg CL CS CT CR CP CW aS aR fS fT fR fP) (D_base_of : DefOk P w K mg base CX0 1 "base_of" ["world"] (spBase K CS CT CR CP CW)) (A : At K mg "recording_weight" s_recording_weight ["world", "r"]) : DefOk P w K mg base CX0 2 "recording_weight" ["world", "r"] (spRecW K CS CT CR CP CW) := by
  have B := T.L.B
  refine A.ok sc_recording_weight (fun vs H Q E h => ?_) (fun f cdv A outer s H vs Q E hr h => ?_)
  · obtain ⟨ac, W, i, z, rfl, _⟩ := h
    rfl
  obtain ⟨ac, W, i, z, rfl, wok, hW, hz, q⟩ := h
  obtain ⟨dx, t0, t1, t2, t3, x0, x1, x2, x3, gw, _, _, _, _, p2, q2, p3, q3⟩ := hW.ex
  have l2 := paired_len q2
  have hi : i < W.recs.length := (List.getElem?_eq_some_iff.mp hz).1
  obtain ⟨x, hx⟩ : ∃ x, x2[i]? = some x := ⟨_, List.getElem?_eq_getElem (by omega)⟩
  obtain ⟨z', hz', ob, od, rfl, o1⟩ := paired_at q2 hx
  rw [hz] at hz'
  have ez := Option.some.inj hz'
  subst ez
  have ok := wok.recs z (List.mem_of_getElem? hz)
  have rk := ok.rank
  have b := base_pos wok
  refine ⟨_, pss_cons (ps_set (i := 2) sc_recording_weight.nd rfl (Or.inl rfl) (pe_ix ix_tup (pe_fld (pv 0) rfl) (pv 1) (fun _ _ => rfl)))
  (pss_cons (ps_set (i := 3) sc_recording_weight.nd rfl (Or.inl rfl) (pe_f D_base_of (hr.mono (by omega)) pass0 (pa_cons (pv 0) pa_nil)))
  (pss_cons (ps_set (i := 4) sc_recording_weight.nd rfl (Or.inl rfl) (pe_fld (pv 2) rfl))
  (pss_cons (ps_for PassesOwn.never rfl (pi_range1 (by rfl) B.range (pa_cons (pe_op op_sub pe_int (pe_fld (pv 2) rfl)) pa_nil)) (pg_name (i := 5) sc_recording_weight.nd rfl (Or.inl rfl))
      (pss_one (ps_aug (i := 4) sc_recording_weight.nd rfl (Or.inl rfl) (pv 3) ip_mul)))
  (pss_one (ps_ret (pv 4))))))
    , ?_⟩
  refine ⟨_, rfl, ac, CW, dx, _, _, rfl, gw, T.c_World.cl, T.n_World_recordings, lk_World_recordings, _, rfl, t2, x2, (i : Int), _, rfl, rfl, p2, atI_nat hx, ?_⟩
  refine ⟨_, rfl, ac, W, rfl, wok, hW, fun H1 s1 => ?_⟩
  refine ⟨_, rfl, ob, CR, od, _, _, rfl, s1 _ _ o1, T.c_Recording.cl, T.n_Recording_worth, lk_Recording_worth, ?_⟩
  refine ⟨_, rfl, ob, CR, od, _, _, rfl, s1 _ _ o1, T.c_Recording.cl, T.n_Recording_rank, lk_Recording_rank, _, _, rfl, rfl, 4 - z.rank, rfl, by (clear T D_base_of B hr wok hW hz q gw p2 q2 p3 q3 l2 hi hx hz' o1 ok b s1; omega), by (clear T D_base_of B hr wok hW hz q gw p2 q2 p3 q3 l2 hi hx hz' o1 ok b s1; omega), for_range (lo := 0) (n := (4 - z.rank).toNat) (fun j σ H' => ∃ y5, σ = [some (.ref ac), some (.int (i : Int)), some (.ref ob), some (.int (baseW W)), some (.int (z.worth * baseW W ^ j)), y5] ∧ H' = H1)
    ⟨none, by rw [Int.pow_zero, Int.mul_one]; rfl, rfl⟩ (fun j σ H' hj hI => ?_) (fun σ H' hI => ?_)⟩
  · obtain ⟨y5, rfl, rfl⟩ := hI
    refine ⟨_, rfl, _, rfl, _, _, rfl, rfl, .inr ⟨by (clear T D_base_of B hr wok hW hz q gw p2 q2 p3 q3 l2 hi hx hz' o1 ok rk hj s1; omega), by (clear T D_base_of B hr wok hW hz q gw p2 q2 p3 q3 l2 hi hx hz' o1 ok rk hj s1; omega)⟩, some (.int (0 + (j : Int))), ?_, rfl⟩
    rw [Int.pow_succ, ← Int.mul_assoc]
    rfl
  · obtain ⟨y5, rfl, rfl⟩ := hI
    exact ⟨_, rfl, q _ s1⟩
end
end DP
namespace DP
open PySem PySem.Spec PyProof.Rows L2
abbrev s_minutes_within : Stmt := topS 21
theorem sc_minutes_within : FnScope ["spans", "first", "end", "span"] ["spans", "first", "end"] (defScope s_minutes_within) := ⟨rfl, rfl, rfl, by decide +kernel, rfl, by decide +kernel, by decide +kernel⟩
abbrev s_light_minutes : Stmt := topS 41
theorem sc_light_minutes : FnScope ["satellite", "first", "end"] ["satellite", "first", "end"] (defScope s_light_minutes) := ⟨rfl, rfl, rfl, by decide +kernel, rfl, by decide +kernel, by decide +kernel⟩
section
variable {P : Program} {w : World} {K : PySem.W.Frag} {mg : Str → Option Value} {base : Heap} {CL CS CT CR CP CW aS aR fS fT fR fP : Addr}
def spWithin (K : PySem.W.Frag) : Sp := fun vs H Q _ => ∃ (t : Addr) (xs : List V) (qs : List (Int × Int)) (f e : Int), vs = [.ref t, .int f, .int e] ∧ SqT K H t xs ∧ Spans K H xs qs ∧ qs.length ≤ 1000 ∧ ∀ H', Same H H' → Q (.int (mw qs f e)) H'
theorem d_minutes_within (B : Bt mg) (A : At K mg "minutes_within" s_minutes_within ["spans", "first", "end"]) : DefOk P w K mg base CX0 1 "minutes_within" ["spans", "first", "end"] (spWithin K) := by
  refine A.ok sc_minutes_within (fun vs H Q E h => ?_) (fun f cdv A outer s H vs Q E hr h => ?_)
  · obtain ⟨t, xs, qs, f, e, rfl, _⟩ := h
    rfl
  obtain ⟨t, xs, qs, f, e, rfl, h1, h2, hl, q⟩ := h
  refine ⟨_, pss_one (ps_ret (pe_callB (cr_sum rfl) (by rfl) B.sum (by decide +kernel) (pa_cons (pe_lc (own := [("span", 3)])  rfl sc_minutes_within.nd (pi_tup (pv 0)) (blkOk_by (own := [("span", 3)]) (N := ["spans", "first", "end", "span"]) (sc := defScope s_minutes_within) (by decide +kernel)) (fun _ _ _ _ _ => pg_name (i := 3) sc_minutes_within.nd rfl (Or.inl rfl)) (fun _ _ _ _ _ => pts_nil) (fun _ _ _ _ _ => (pe_callB (call_max2 rfl) (by rfl) B.max (by decide +kernel) (pa_cons pe_int (pa_cons (pe_op op_sub (pe_callB (call_min2 rfl) (by rfl) B.min (by decide +kernel) (pa_cons (pv 2) (pa_cons (pe_ix (ix_tupK (K := K) rfl) (pv 3) pe_int (fun _ _ => rfl)) pa_nil))) (pe_callB (call_max2 rfl) (by rfl) B.max (by decide +kernel) (pa_cons (pv 1) (pa_cons (pe_ix (ix_tupK (K := K) rfl) (pv 3) pe_int (fun _ _ => rfl)) pa_nil)))) pa_nil))))) pa_nil)))
    , ?_⟩
  have hlen := paired_len h2
  refine ⟨_, rfl, t, rfl, ⟨_, h1⟩, fun D hD => lc_tup (K := K) (a := t) (xs := xs) (fun i H' => i ≤ xs.length ∧ Same H H' ∧ H' D = some (.lst (((qs.take i).map (mwOne f e)).map V.int))) ⟨Nat.zero_le _, same_new hD _, upd_same⟩ (fun i H' _ h => Same.tup h.2.1 h1) (fun i x H1 hx hI => ?_) (fun H1 hI => ?_)⟩
  · obtain ⟨_, hs, hDD⟩ := hI
    obtain ⟨y, hy, p, rfl, hp⟩ := paired_at h2 hx
    have hi : i < xs.length := (List.getElem?_eq_some_iff.mp hx).1
    have hp1 := Same.tup hs hp
    refine ⟨rfl, ?_⟩
    refine ⟨_, rfl, _, rfl, p, _, 1, .int y.2, rfl, rfl, hp1, rfl, _, _, rfl, _, rfl, _, rfl, p, _, 0, .int y.1, rfl, rfl, hp1, rfl, _, _, rfl, _, _, rfl, rfl, _, _, rfl, ?_⟩
    refine ⟨_, hDD, ?_, hi, same_at hD hs _, ?_⟩
    · rw [List.length_map, List.length_map, List.length_take]
      exact small1000 (by omega)
    · rw [upd_same, List.take_add_one, hy, List.map_append, List.map_append]
      rfl
  · obtain ⟨_, hs, hDD⟩ := hI
    rw [hlen, List.take_length] at hDD
    exact ⟨D, _, rfl, SqL.of hDD, q H1 hs⟩
def spLightM (K : PySem.W.Frag) (CS : Addr) : Sp := fun vs H Q _ => ∃ (x : V) (z : SatD) (f e : Int), vs = [x, .int f, .int e] ∧ SatAt K CS H x z ∧ z.light.length ≤ 1000 ∧ ∀ H', Same H H' → Q (.int (mw z.light f e)) H'
theorem d_light_minutes (T : TxtW K mg CL CS CT CR CP CW aS aR fS fT fR fP) (D_minutes_within : DefOk P w K mg base CX0 1 "minutes_within" ["spans", "first", "end"] (spWithin K)) (A : At K mg "light_minutes" s_light_minutes ["satellite", "first", "end"]) :
    DefOk P w K mg base CX0 2 "light_minutes" ["satellite", "first", "end"] (spLightM K CS) := by
  refine A.ok sc_light_minutes (fun vs H Q E h => ?_) (fun f cdv A outer s H vs Q E hr h => ?_)
  · obtain ⟨x, z, f, e, rfl, _⟩ := h
    rfl
  obtain ⟨x, z, f, e, rfl, hx, hl, q⟩ := h
  obtain ⟨a, dx, t, ls, rfl, g1, g2, g3⟩ := hx
  refine ⟨_, pss_one (ps_ret (pe_f D_minutes_within (hr.mono (by omega)) pass0 (pa_cons (pe_fld (pv 0) rfl) (pa_cons (pv 1) (pa_cons (pv 2) pa_nil)))))
    , ?_⟩
  refine ⟨_, rfl, a, CS, dx, _, _, rfl, g1, T.c_Satellite.cl, T.n_Satellite_light, (show List.lookup ("light" : Str) (satF z t) = some (.ref t) from by unfold satF; repeat (first | exact lk_hit | rw [lk_miss (by decide +kernel)])), _, rfl, _, rfl, t, ls, z.light, f, e, rfl, g2, g3, hl, fun H' s' => q H' s'⟩
theorem light_lt {h : Int} : ∀ {l : List (Int × Int)} {a : Int}, LightOk a h l → ∀ q ∈ l, q.1 < q.2
  | [], _, _, q, hq => absurd hq List.not_mem_nil
  | p :: r, a, ⟨h1, h2, h3, h4⟩, q, hq => by
    rcases List.mem_cons.mp hq with rfl | hq
    · omega
    · exact light_lt h4 q hq
end
end DP
namespace DP
open PySem PySem.Spec PyProof.Rows L2
abbrev s_lengthened : Stmt := topS 19
theorem sc_lengthened : FnScope ["span", "minutes", "first", "end"] ["span", "minutes"] (defScope s_lengthened) := ⟨rfl, rfl, rfl, by decide +kernel, rfl, by decide +kernel, by decide +kernel⟩
section
variable {P : Program} {w : World} {K : PySem.W.Frag} {mg : Str → Option Value} {base : Heap}
def spLength (K : PySem.W.Frag) : Sp := fun vs H Q _ => ∃ (a : Addr) (x : Int × Int) (n : Int), vs = [.ref a, .int n] ∧ SqT K H a [.int x.1, .int x.2] ∧ ∀ t H', Same H H' → SqT K H' t [.int x.1, .int (x.2 + n)] → Q (.ref t) H'
theorem d_lengthened (B : Bt mg) (A : At K mg "lengthened" s_lengthened ["span", "minutes"]) : DefOk P w K mg base CX0 1 "lengthened" ["span", "minutes"] (spLength K) := by
  refine A.ok sc_lengthened (fun vs H Q E h => ?_) (fun f cdv A outer s H vs Q E hr h => ?_)
  · obtain ⟨a, x, n, rfl, _⟩ := h
    rfl
  obtain ⟨a, x, n, rfl, ha, q⟩ := h
  refine ⟨_, pss_cons (ps_asg (pv 0) (pg_tup (by rfl) (pgs_cons (pg_name (i := 2) sc_lengthened.nd rfl (Or.inl rfl)) (pgs_cons (pg_name (i := 3) sc_lengthened.nd rfl (Or.inl rfl)) (pgs_nil)))))
  (pss_one (ps_ret (pe_tup (pa_cons (pv 2) (pa_cons (pe_op op_add (pv 3) (pv 1)) pa_nil)))))
    , ?_⟩
  refine ⟨_, rfl, a, _, rfl, ha, rfl, _, _, rfl, _, _, rfl, rfl, ?_⟩
  exact ⟨_, rfl, _, rfl, _, rfl, _, _, rfl, rfl, sz2_, fun t ht => q t _ (same_new ht _) (SqT.of upd_same)⟩
end
end DP
namespace DP
open PySem PySem.Spec PyProof.Rows L2
inductive RowD where
  | room (p : Nat) : RowD
  | sta (s m : Nat) : RowD
  | sat (s m : Nat) : RowD
  | store (s m : Nat) : RowD
  | energy (s m : Nat) : RowD
  | efrom (s m0 m : Nat) : RowD
def RowD.word : RowD → Str
  | .room _ => "room"
  | .sta _ _ => "station"
  | .sat _ _ => "satellite"
  | .store _ _ => "store"
  | .energy _ _ => "energy"
  | .efrom _ _ _ => "energy from"
def RowD.num : RowD → Nat
  | .room p => p
  | .sta s _ => s
  | .sat s _ => s
  | .store s _ => s
  | .energy s _ => s
  | .efrom s _ _ => s
def RowD.mins : RowD → List Nat
  | .room _ => []
  | .sta _ m => [m]
  | .sat _ m => [m]
  | .store _ m => [m]
  | .energy _ m => [m]
  | .efrom _ m0 m => [m0, m]
def RowD.many (W : WorldD) : RowD → Nat
  | .room _ => W.pass.length
  | .sta _ _ => W.stas.length
  | .sat _ _ => W.sats.length
  | .store _ _ => W.sats.length
  | .energy _ _ => W.sats.length
  | .efrom _ _ _ => W.sats.length
def RowD.asc : RowD → Prop
  | .efrom _ m0 m => m0 < m
  | _ => True
structure RowOk (W : WorldD) (r : RowD) : Prop where
  num : r.num < r.many W
  mins : ∀ m ∈ r.mins, (m : Int) < W.horizon
  asc : r.asc
def minV (ms : List Nat) : List V := ms.map fun (m : Nat) => V.int (m : Int)
def rowV (r : RowD) : List V := .str r.word :: .int (r.num : Int) :: minV r.mins
def rowPy (r : RowD) : PyData := .tuple (.str r.word :: .int (r.num : Int) :: r.mins.map fun (m : Nat) => PyData.int (m : Int))
theorem dpAll_mins {K : PySem.W.Frag} {H : Hp} : ∀ ms : List Nat, DpAll K H (minV ms) (ms.map fun (m : Nat) => PyData.int (m : Int))
  | [] => .nil
  | m :: r => .cons (.int _) (dpAll_mins r)
theorem mins_eq {K : PySem.W.Frag} {H : Hp} : ∀ {ms : List Nat} {xs : List V}, DpAll K H xs (ms.map fun (m : Nat) => PyData.int (m : Int)) → xs = minV ms
  | [], _, .nil => rfl
  | m :: r, _, .cons a t => by
    cases a
    rw [mins_eq t]
    rfl
theorem row_dp {K : PySem.W.Frag} {H : Hp} {t : Addr} {r : RowD} (h : SqT K H t (rowV r)) : Dp K H (.ref t) (rowPy r) := .tup h (.cons (.str _) (.cons (.int _) (dpAll_mins _)))
theorem dp_row {K : PySem.W.Frag} {H : Hp} {v : V} {r : RowD} (h : Dp K H v (rowPy r)) : ∃ t, v = .ref t ∧ SqT K H t (rowV r) := by
  obtain ⟨t, xs, rfl, ht, hx⟩ := dp_tup h
  cases hx with
  | cons a0 hx =>
  cases hx with
  | cons a1 hx =>
  cases a0
  cases a1
  rw [mins_eq hx] at ht
  exact ⟨t, rfl, ht⟩
end DP
namespace DP
open PySem PySem.Spec PyProof.Rows L2
abbrev s_has_minute : Stmt := topS 20
theorem sc_has_minute : FnScope ["span", "minute"] ["span", "minute"] (defScope s_has_minute) := ⟨rfl, rfl, rfl, by decide +kernel, rfl, by decide +kernel, by decide +kernel⟩
abbrev s_busy_part : Stmt := topS 64
theorem sc_busy_part : FnScope ["world", "number", "span", "minute", "settle"] ["world", "number", "span", "minute"] (defScope s_busy_part) := ⟨rfl, rfl, rfl, by decide +kernel, rfl, by decide +kernel, by decide +kernel⟩
abbrev s_is_spent : Stmt := topS 65
theorem sc_is_spent : FnScope ["first", "minutes"] ["first", "minutes"] (defScope s_is_spent) := ⟨rfl, rfl, rfl, by decide +kernel, rfl, by decide +kernel, by decide +kernel⟩
abbrev s_charged : Stmt := topS 67
theorem sc_charged : FnScope ["satellite", "first", "end"] ["satellite", "first", "end"] (defScope s_charged) := ⟨rfl, rfl, rfl, by decide +kernel, rfl, by decide +kernel, by decide +kernel⟩
abbrev s_right_side : Stmt := topS 66
theorem sc_right_side : FnScope ["world", "row", "word", "number", "minutes", "satellite", "first", "last"] ["world", "row"] (defScope s_right_side) := ⟨rfl, rfl, rfl, by decide +kernel, rfl, by decide +kernel, by decide +kernel⟩
theorem rw_sat {K : PySem.W.Frag} {CS : Addr} {H : Hp} {x0 : List V} {l : List SatD} (q0 : Paired (SatAt K CS H) x0 l) {i : Nat} {z : SatD} (hz : l[i]? = some z) : ∃ sb sd ts ls, x0[i]? = some (.ref sb) ∧ H sb = some (.ins CS sd (satF z ts)) ∧ SqT K H ts ls ∧ Spans K H ls z.light := by
  have l2 := paired_len q0
  obtain ⟨x, hx⟩ : ∃ x, x0[i]? = some x := ⟨_, List.getElem?_eq_getElem (by have := (List.getElem?_eq_some_iff.mp hz).1; omega)⟩
  obtain ⟨z', hz', sb, sd, ts, ls, rfl, c1, c2, c3⟩ := paired_at q0 hx
  rw [hz] at hz'
  cases hz'
  exact ⟨sb, sd, ts, ls, hx, c1, c2, c3⟩
theorem rw_sta {CT : Addr} {H : Hp} {x1 : List V} {l : List StaD} (q1 : Paired (StaAt CT H) x1 l) {i : Nat} {z : StaD} (hz : l[i]? = some z) : ∃ ob od, x1[i]? = some (.ref ob) ∧ H ob = some (.ins CT od (staF z)) := by
  have l2 := paired_len q1
  obtain ⟨x, hx⟩ : ∃ x, x1[i]? = some x := ⟨_, List.getElem?_eq_getElem (by have := (List.getElem?_eq_some_iff.mp hz).1; omega)⟩
  obtain ⟨z', hz', ob, od, rfl, o1⟩ := paired_at q1 hx
  rw [hz] at hz'
  cases hz'
  exact ⟨ob, od, hx, o1⟩
theorem rw_rec {CR : Addr} {H : Hp} {x2 : List V} {l : List RecD} (q2 : Paired (RecAt CR H) x2 l) {i : Nat} {z : RecD} (hz : l[i]? = some z) : ∃ ob od, x2[i]? = some (.ref ob) ∧ H ob = some (.ins CR od (recF z)) := by
  have l2 := paired_len q2
  obtain ⟨x, hx⟩ : ∃ x, x2[i]? = some x := ⟨_, List.getElem?_eq_getElem (by have := (List.getElem?_eq_some_iff.mp hz).1; omega)⟩
  obtain ⟨z', hz', ob, od, rfl, o1⟩ := paired_at q2 hx
  rw [hz] at hz'
  cases hz'
  exact ⟨ob, od, hx, o1⟩
theorem rw_pas {K : PySem.W.Frag} {CP : Addr} {H : Hp} {x3 : List V} {l : List PasD} (q3 : Paired (PasAt K CP H) x3 l) {i : Nat} {z : PasD} (hz : l[i]? = some z) : ∃ pb pd ts, x3[i]? = some (.ref pb) ∧ H pb = some (.ins CP pd (pasF z ts)) ∧ SqT K H ts [.int z.first, .int z.fin] := by
  have l2 := paired_len q3
  obtain ⟨x, hx⟩ : ∃ x, x3[i]? = some x := ⟨_, List.getElem?_eq_getElem (by have := (List.getElem?_eq_some_iff.mp hz).1; omega)⟩
  obtain ⟨z', hz', pb, pd, ts, rfl, c1, c2⟩ := paired_at q3 hx
  rw [hz] at hz'
  cases hz'
  exact ⟨pb, pd, ts, hx, c1, c2⟩
def rwSet (W : WorldD) (s : Nat) : Int := match W.sats[s]? with
  | some z => z.settle
  | none => 0
def rwTurn (W : WorldD) (s : Nat) : Int := match W.stas[s]? with
  | some z => z.turn
  | none => 0
def rwFin (W : WorldD) (p : Int) : Int := match W.pass[p.toNat]? with
  | some z => z.fin
  | none => 0
def inM (m a b : Int) : Bool := decide (a ≤ m) && decide (m < b)
def recPart (W : WorldD) (row : RowD) (z : RecD) (st p : Int) : Int := match row with
  | .room q => if p = (q : Int) then z.size else 0
  | .sta _ _ => 0
  | .sat s m => if z.sat = s then (if inM m st (st + z.length + rwSet W s) = true then 1 else 0) else 0
  | .store s m => if z.sat = s then (if inM m st (rwFin W p) = true then z.size else 0) else 0
  | .energy s m => if z.sat = s then (if st ≤ (m : Int) then z.energy else 0) else 0
  | .efrom s m0 m => if z.sat = s then (if st ≤ (m : Int) ∧ (m0 : Int) < st then z.energy else 0) else 0
def pasPart (W : WorldD) (row : RowD) (k : Nat) (z : PasD) : Int := match row with
  | .room q => if k = q then -z.room else 0
  | .sta s m => if z.sta = s then (if inM m z.first (z.fin + rwTurn W s) = true then 1 else 0) else 0
  | .sat s m => if z.sat = s then (if inM m z.first (z.fin + rwSet W s) = true then 1 else 0) else 0
  | .store _ _ => 0
  | .energy s m => if z.sat = s then (if z.first ≤ (m : Int) then z.energy else 0) else 0
  | .efrom s m0 m => if z.sat = s then (if z.first ≤ (m : Int) ∧ (m0 : Int) < z.first then z.energy else 0) else 0
def rightW (W : WorldD) (row : RowD) : Int := match row with
  | .room _ => 0
  | .sta s _ => match W.stas[s]? with
    | some z => z.antennas
    | none => 0
  | .sat _ _ => 1
  | .store s _ => match W.sats[s]? with
    | some z => z.store
    | none => 0
  | .energy s m => match W.sats[s]? with
    | some z => z.level - z.reserve + z.charge * mw z.light 0 m
    | none => 0
  | .efrom s m0 m => match W.sats[s]? with
    | some z => z.battery - z.reserve + z.charge * mw z.light ((m0 : Int) + 1) m
    | none => 0
section
variable {P : Program} {w : World} {K : PySem.W.Frag} {mg : Str → Option Value} {base : Heap} {CL CS CT CR CP CW aS aR fS fT fR fP : Addr}
def spHasM (K : PySem.W.Frag) : Sp := fun vs H Q _ => ∃ (a : Addr) (x : Int × Int) (m : Int), vs = [.ref a, .int m] ∧ SqT K H a [.int x.1, .int x.2] ∧ Q (.bl (inM m x.1 x.2)) H
theorem d_has_minute (B : Bt mg) (A : At K mg "has_minute" s_has_minute ["span", "minute"]) : DefOk P w K mg base CX0 1 "has_minute" ["span", "minute"] (spHasM K) := by
  refine A.ok sc_has_minute (fun vs H Q E h => ?_) (fun f cdv A outer s H vs Q E hr h => ?_)
  · obtain ⟨a, x, m, rfl, _⟩ := h
    rfl
  obtain ⟨a, x, m, rfl, ha, q⟩ := h
  refine ⟨_, pss_one (ps_ret (pe_chain op_le op_lt (pe_ix ix_tup (pv 0) pe_int (fun _ _ => rfl)) (pv 1) (pe_ix ix_tup (pv 0) pe_int (fun _ _ => rfl))))
    , ?_⟩
  refine ⟨_, rfl, a, _, 0, _, rfl, rfl, ha, rfl, _, rfl, _, _, rfl, rfl, _, rfl, ite2 (fun k => ?_) (fun k => ?_)⟩
  · unfold inM at q
    rw [show decide (x.1 ≤ m) = true from k, Bool.true_and] at q
    exact ⟨_, rfl, a, _, 1, _, rfl, rfl, ha, rfl, _, _, rfl, rfl, q⟩
  · unfold inM at q
    rw [show decide (x.1 ≤ m) = false from Bool.eq_false_iff.mpr k, Bool.false_and] at q
    exact q
def spBusyP (K : PySem.W.Frag) (CS CT CR CP CW : Addr) : Sp := fun vs H Q _ => ∃ (ac a : Addr) (W : WorldD) (s : Nat) (z : SatD) (x : Int × Int) (m : Int), vs = [.ref ac, .int (s : Int), .ref a, .int m] ∧ WorldAt K CS CT CR CP CW H ac W ∧ W.sats[s]? = some z ∧ SqT K H a [.int x.1, .int x.2] ∧ ∀ H', Same H H' → Q (.int (if inM m x.1 (x.2 + z.settle) = true then 1 else 0)) H'
theorem d_busy_part (T : TxtW K mg CL CS CT CR CP CW aS aR fS fT fR fP) (D_has_minute : DefOk P w K mg base CX0 1 "has_minute" ["span", "minute"] (spHasM K)) (D_lengthened : DefOk P w K mg base CX0 1 "lengthened" ["span", "minutes"] (spLength K)) (A : At K mg "busy_part" s_busy_part ["world", "number", "span", "minute"]) :
    DefOk P w K mg base CX0 2 "busy_part" ["world", "number", "span", "minute"] (spBusyP K CS CT CR CP CW) := by
  have B := T.L.B
  refine A.ok sc_busy_part (fun vs H Q E h => ?_) (fun f cdv A outer s H vs Q E hr h => ?_)
  · obtain ⟨ac, a, W, n, z, x, m, rfl, _⟩ := h
    rfl
  obtain ⟨ac, a, W, n, z, x, m, rfl, hW, hz, ha, q⟩ := h
  obtain ⟨dx, t0, t1, t2, t3, x0, x1, x2, x3, gw, p0, q0, _⟩ := hW.ex
  obtain ⟨sb, sd, ts, ls, hsb, g1, g2, g3⟩ := rw_sat q0 hz
  refine ⟨_, pss_cons (ps_set (i := 4) sc_busy_part.nd rfl (Or.inl rfl) (pe_fld (pe_ix ix_tup (pe_fld (pv 0) rfl) (pv 1) (fun _ _ => rfl)) rfl))
  (pss_one (ps_ret (pe_ifExp (pt_val (pe_f D_has_minute (hr.mono (by omega)) pass0 (pa_cons (pe_f D_lengthened (hr.mono (by omega)) pass0 (pa_cons (pv 2) (pa_cons (pv 4) pa_nil))) (pa_cons (pv 3) pa_nil)))) pe_int pe_int)))
    , ?_⟩
  refine ⟨_, rfl, ac, CW, dx, _, _, rfl, gw, T.c_World.cl, T.n_World_satellites, lk_World_satellites, _, rfl, t0, x0, (n : Int), _, rfl, rfl, p0, atI_nat hsb, sb, CS, sd, _, _, rfl, g1, T.c_Satellite.cl, T.n_Satellite_settle, lk_Satellite_settle, ?_⟩
  refine ⟨_, rfl, _, rfl, a, x, z.settle, rfl, ha, fun t H1 s1 h1 => ⟨_, rfl, t, (x.1, x.2 + z.settle), m, rfl, h1, _, rfl, ?_⟩⟩
  have q1 := q H1 s1
  refine ite2 (fun k => ?_) (fun k => ?_)
  · rw [if_pos k] at q1
    exact q1
  · rw [if_neg k] at q1
    exact q1
def spSpent (K : PySem.W.Frag) : Sp := fun vs H Q _ => ∃ (D : Addr) (f : Int) (ms : List Nat), vs = [.int f, .ref D] ∧ SqL K H D (minV ms) ∧ ((∃ m, ms = [m] ∧ Q (.bl (decide (f ≤ (m : Int)))) H) ∨ ∃ m0 m, ms = [m0, m] ∧ Q (.bl (decide (f ≤ (m : Int) ∧ (m0 : Int) < f))) H)
theorem d_is_spent (B : Bt mg) (A : At K mg "is_spent" s_is_spent ["first", "minutes"]) : DefOk P w K mg base CX0 1 "is_spent" ["first", "minutes"] (spSpent K) := by
  refine A.ok sc_is_spent (fun vs H Q E h => ?_) (fun f cdv A outer s H vs Q E hr h => ?_)
  · obtain ⟨D, g, ms, rfl, _⟩ := h
    rfl
  obtain ⟨D, g, ms, rfl, hD, q⟩ := h
  refine ⟨_, pss_one (ps_ret (pe_and (pe_cmpR op_le (pv 0) (pe_ix ix_list (pv 1) (pe_un un_neg pe_int) (fun _ _ => rfl)) (nomark _)) (pe_one (pe_or (pe_cmpR op_eq (pe_callB (call_len_seq) (by rfl) B.len (by decide +kernel) (pa_cons (pv 1) pa_nil)) pe_int (nomark _)) (pe_one (pe_cmpR op_lt (pe_ix ix_list (pv 1) pe_int (fun _ _ => rfl)) (pv 0) (nomark _)))))))
    , ?_⟩
  rcases q with ⟨m, rfl, q⟩ | ⟨m0, m, rfl, q⟩
  · refine ⟨_, rfl, _, rfl, _, rfl, D, _, _, _, rfl, rfl, hD, rfl, _, _, rfl, rfl, _, rfl, ite2 (fun k => ?_) (fun k => ?_)⟩
    · have k : g ≤ (m : Int) := of_decide_eq_true k
      rw [decide_eq_true k] at q
      exact ⟨_, rfl, D, _, rfl, .inl hD, rfl, _, rfl, iteT' rfl q⟩
    · rw [decide_eq_false fun h => k (decide_eq_true h)] at q
      exact q
  · refine ⟨_, rfl, _, rfl, _, rfl, D, _, _, _, rfl, rfl, hD, rfl, _, _, rfl, rfl, _, rfl, ite2 (fun k => ?_) (fun k => ?_)⟩
    · have k : g ≤ (m : Int) := of_decide_eq_true k
      refine ⟨_, rfl, D, _, rfl, .inl hD, rfl, _, rfl, iteF' rfl ⟨_, rfl, D, _, 0, _, rfl, rfl, hD, rfl, _, rfl, _, _, rfl, rfl, ?_⟩⟩
      rw [show decide (g ≤ (m : Int) ∧ (m0 : Int) < g) = decide ((m0 : Int) < g) from by
        by_cases c : (m0 : Int) < g
        · rw [decide_eq_true c, decide_eq_true ⟨k, c⟩]
        · rw [decide_eq_false c, decide_eq_false fun h => c h.2]] at q
      exact q
    · rw [decide_eq_false fun h => k (decide_eq_true h.1)] at q
      exact q
def spCharged (K : PySem.W.Frag) (CS : Addr) : Sp := fun vs H Q _ => ∃ (x : V) (z : SatD) (f e : Int), vs = [x, .int f, .int e] ∧ SatAt K CS H x z ∧ z.light.length ≤ 1000 ∧ 0 ≤ z.charge ∧ z.charge ≤ 1000 ∧ ∀ H', Same H H' → Q (.int (z.charge * mw z.light f e)) H'
theorem d_charged (T : TxtW K mg CL CS CT CR CP CW aS aR fS fT fR fP) (D_light_minutes : DefOk P w K mg base CX0 2 "light_minutes" ["satellite", "first", "end"] (spLightM K CS)) (A : At K mg "charged" s_charged ["satellite", "first", "end"]) :
    DefOk P w K mg base CX0 3 "charged" ["satellite", "first", "end"] (spCharged K CS) := by
  have B := T.L.B
  refine A.ok sc_charged (fun vs H Q E h => ?_) (fun f cdv A outer s H vs Q E hr h => ?_)
  · obtain ⟨x, z, f, e, rfl, _⟩ := h
    rfl
  obtain ⟨x, z, f, e, rfl, hx, hl, c0, c1, q⟩ := h
  have hx0 := hx
  obtain ⟨sb, sd, ts, ls, rfl, g1, g2, g3⟩ := hx
  refine ⟨_, pss_one (ps_ret (pe_op op_mul (pe_fld (pv 0) rfl) (pe_f D_light_minutes (hr.mono (by omega)) pass0 (pa_cons (pv 0) (pa_cons (pv 1) (pa_cons (pv 2) pa_nil))))))
    , ?_⟩
  refine ⟨_, rfl, sb, CS, sd, _, _, rfl, g1, T.c_Satellite.cl, T.n_Satellite_charge, lk_Satellite_charge, _, rfl, _, rfl, _, rfl, _, z, f, e, rfl, hx0, hl, fun H1 s1 => ⟨_, _, rfl, rfl, .inl ⟨by omega, by omega⟩, q H1 s1⟩⟩
def spRight (K : PySem.W.Frag) (CS CT CR CP CW : Addr) : Sp := fun vs H Q _ => ∃ (ac t : Addr) (W : WorldD) (r : RowD), vs = [.ref ac, .ref t] ∧ WorldOk W ∧ WorldAt K CS CT CR CP CW H ac W ∧ SqT K H t (rowV r) ∧ RowOk W r ∧ ∀ H', Same H H' → Q (.int (rightW W r)) H'
set_option maxHeartbeats 8000000 in
theorem d_right_side (T : TxtW K mg CL CS CT CR CP CW aS aR fS fT fR fP) (D_charged : DefOk P w K mg base CX0 3 "charged" ["satellite", "first", "end"] (spCharged K CS)) (A : At K mg "right_side" s_right_side ["world", "row"]) :
    DefOk P w K mg base CX0 4 "right_side" ["world", "row"] (spRight K CS CT CR CP CW) := by
  have B := T.L.B
  refine A.ok sc_right_side (fun vs H Q E h => ?_) (fun f cdv A outer s H vs Q E hr h => ?_)
  · obtain ⟨ac, t, W, r, rfl, _⟩ := h
    rfl
  obtain ⟨ac, t, W, r, rfl, wok, hW, ht, rok, q⟩ := h
  refine ⟨_, pss_cons (ps_asg (pv 1) (pg_star (i := 2) (by rfl) (pgs_cons (pg_name (i := 2) sc_right_side.nd rfl (Or.inl rfl)) (pgs_cons (pg_name (i := 3) sc_right_side.nd rfl (Or.inl rfl)) (pgs_consS (pg_name (i := 4) sc_right_side.nd rfl (Or.inl rfl)) (pgs_nil))))))
  (pss_cons (ps_if (pt_cmpR op_eq (pv 2) pe_str (nomark _))
      (pss_one (ps_ret pe_int))
      (pss_nil))
  (pss_cons (ps_if (pt_cmpR op_eq (pv 2) pe_str (nomark _))
      (pss_one (ps_ret (pe_fld (pe_ix ix_tup (pe_fld (pv 0) rfl) (pv 3) (fun _ _ => rfl)) rfl)))
      (pss_nil))
  (pss_cons (ps_if (pt_cmpR op_eq (pv 2) pe_str (nomark _))
      (pss_one (ps_ret pe_int))
      (pss_nil))
  (pss_cons (ps_set (i := 5) sc_right_side.nd rfl (Or.inl rfl) (pe_ix ix_tup (pe_fld (pv 0) rfl) (pv 3) (fun _ _ => rfl)))
  (pss_cons (ps_if (pt_cmpR op_eq (pv 2) pe_str (nomark _))
      (pss_one (ps_ret (pe_fld (pv 5) rfl)))
      (pss_nil))
  (pss_cons (ps_if (pt_cmpR op_eq (pv 2) pe_str (nomark _))
      (pss_one (ps_ret (pe_op op_add (pe_op op_sub (pe_fld (pv 5) rfl) (pe_fld (pv 5) rfl)) (pe_f D_charged (hr.mono (by omega)) pass0 (pa_cons (pv 5) (pa_cons pe_int (pa_cons (pe_ix ix_list (pv 4) pe_int (fun _ _ => rfl)) pa_nil)))))))
      (pss_nil))
  (pss_cons (ps_asg (pv 4) (pg_unl (by rfl) (pgs_cons (pg_name (i := 6) sc_right_side.nd rfl (Or.inl rfl)) (pgs_cons (pg_name (i := 7) sc_right_side.nd rfl (Or.inl rfl)) (pgs_nil)))))
  (pss_one (ps_ret (pe_op op_add (pe_op op_sub (pe_fld (pv 5) rfl) (pe_fld (pv 5) rfl)) (pe_f D_charged (hr.mono (by omega)) pass0 (pa_cons (pv 5) (pa_cons (pe_op op_add (pv 6) pe_int) (pa_cons (pv 7) pa_nil))))))))))))))
    , ?_⟩
  obtain ⟨dx, t0, t1, t2, t3, x0, x1, x2, x3, gw, p0, q0, p1, q1, _⟩ := hW.ex
  cases r with
  | room p =>
    refine ⟨_, rfl, t, _, rfl, ht, (by show 2 ≤ 2; decide), (by show 2 ≤ 1000; decide), fun D hD => ⟨_, _, rfl, _, _, rfl, _, _, rfl, rfl, ?_⟩⟩
    exact ⟨_, rfl, rfl, _, rfl, iteT' (by show decide (V.str (Str.ofString "room") = V.str _) = true; decide +kernel) (q _ (same_new hD _))⟩
  | sta s m =>
    refine ⟨_, rfl, t, _, rfl, ht, (by show 2 ≤ 3; decide), (by show 3 ≤ 1000; decide), fun D hD => ⟨_, _, rfl, _, _, rfl, _, _, rfl, rfl, ?_⟩⟩
    have sD := same_new hD (.lst (minV [m]))
    obtain ⟨z, hz⟩ : ∃ z, W.stas[s]? = some z := ⟨_, List.getElem?_eq_getElem rok.num⟩
    obtain ⟨sb, sd, hsb, g1⟩ := rw_sta q1 hz
    refine ⟨_, rfl, rfl, _, rfl, iteF' (by show decide (V.str (Str.ofString "station") = V.str _) = false; decide +kernel) ?_⟩
    refine ⟨_, rfl, rfl, _, rfl, iteT' (by show decide (V.str (Str.ofString "station") = V.str _) = true; decide +kernel) ?_⟩
    refine ⟨_, rfl, ac, CW, dx, _, _, rfl, sD _ _ gw, T.c_World.cl, T.n_World_stations, lk_World_stations, _, rfl, t1, x1, (s : Int), _, rfl, rfl, Same.tup sD p1, atI_nat hsb, sb, CT, sd, _, _, rfl, sD _ _ g1, T.c_Station.cl, T.n_Station_antennas, lk_Station_antennas, ?_⟩
    have e := q _ sD
    rw [show rightW W (.sta s m) = z.antennas from by show (match W.stas[s]? with | some z => z.antennas | none => 0) = _; rw [hz]] at e
    exact e
  | sat s m =>
    refine ⟨_, rfl, t, _, rfl, ht, (by show 2 ≤ 3; decide), (by show 3 ≤ 1000; decide), fun D hD => ⟨_, _, rfl, _, _, rfl, _, _, rfl, rfl, ?_⟩⟩
    refine ⟨_, rfl, rfl, _, rfl, iteF' (by show decide (V.str (Str.ofString "satellite") = V.str _) = false; decide +kernel) ?_⟩
    refine ⟨_, rfl, rfl, _, rfl, iteF' (by show decide (V.str (Str.ofString "satellite") = V.str _) = false; decide +kernel) ?_⟩
    exact ⟨_, rfl, rfl, _, rfl, iteT' (by show decide (V.str (Str.ofString "satellite") = V.str _) = true; decide +kernel) (q _ (same_new hD _))⟩
  | store s m =>
    refine ⟨_, rfl, t, _, rfl, ht, (by show 2 ≤ 3; decide), (by show 3 ≤ 1000; decide), fun D hD => ⟨_, _, rfl, _, _, rfl, _, _, rfl, rfl, ?_⟩⟩
    have sD := same_new hD (.lst (minV [m]))
    obtain ⟨z, hz⟩ : ∃ z, W.sats[s]? = some z := ⟨_, List.getElem?_eq_getElem rok.num⟩
    obtain ⟨sb, sd, ts, ls, hsb, g1, g2, g3⟩ := rw_sat q0 hz
    refine ⟨_, rfl, rfl, _, rfl, iteF' (by show decide (V.str (Str.ofString "store") = V.str _) = false; decide +kernel) ?_⟩
    refine ⟨_, rfl, rfl, _, rfl, iteF' (by show decide (V.str (Str.ofString "store") = V.str _) = false; decide +kernel) ?_⟩
    refine ⟨_, rfl, rfl, _, rfl, iteF' (by show decide (V.str (Str.ofString "store") = V.str _) = false; decide +kernel) ?_⟩
    refine ⟨_, rfl, ac, CW, dx, _, _, rfl, sD _ _ gw, T.c_World.cl, T.n_World_satellites, lk_World_satellites, _, rfl, t0, x0, (s : Int), _, rfl, rfl, Same.tup sD p0, atI_nat hsb, ?_⟩
    refine ⟨_, rfl, rfl, _, rfl, iteT' (by show decide (V.str (Str.ofString "store") = V.str _) = true; decide +kernel) ?_⟩
    refine ⟨_, rfl, sb, CS, sd, _, _, rfl, sD _ _ g1, T.c_Satellite.cl, T.n_Satellite_store, lk_Satellite_store, ?_⟩
    have e := q _ sD
    rw [show rightW W (.store s m) = z.store from by show (match W.sats[s]? with | some z => z.store | none => 0) = _; rw [hz]] at e
    exact e
  | energy s m =>
    refine ⟨_, rfl, t, _, rfl, ht, (by show 2 ≤ 3; decide), (by show 3 ≤ 1000; decide), fun D hD => ⟨_, _, rfl, _, _, rfl, _, _, rfl, rfl, ?_⟩⟩
    have sD := same_new hD (.lst (minV [m]))
    obtain ⟨z, hz⟩ : ∃ z, W.sats[s]? = some z := ⟨_, List.getElem?_eq_getElem rok.num⟩
    have zok := wok.sats z (List.mem_of_getElem? hz)
    have hh := wok.horizon
    have ll := zok.light.len (by omega)
    obtain ⟨sb, sd, ts, ls, hsb, g1, g2, g3⟩ := rw_sat q0 hz
    refine ⟨_, rfl, rfl, _, rfl, iteF' (by show decide (V.str (Str.ofString "energy") = V.str _) = false; decide +kernel) ?_⟩
    refine ⟨_, rfl, rfl, _, rfl, iteF' (by show decide (V.str (Str.ofString "energy") = V.str _) = false; decide +kernel) ?_⟩
    refine ⟨_, rfl, rfl, _, rfl, iteF' (by show decide (V.str (Str.ofString "energy") = V.str _) = false; decide +kernel) ?_⟩
    refine ⟨_, rfl, ac, CW, dx, _, _, rfl, sD _ _ gw, T.c_World.cl, T.n_World_satellites, lk_World_satellites, _, rfl, t0, x0, (s : Int), _, rfl, rfl, Same.tup sD p0, atI_nat hsb, ?_⟩
    refine ⟨_, rfl, rfl, _, rfl, iteF' (by show decide (V.str (Str.ofString "energy") = V.str _) = false; decide +kernel) ?_⟩
    refine ⟨_, rfl, rfl, _, rfl, iteT' (by show decide (V.str (Str.ofString "energy") = V.str _) = true; decide +kernel) ?_⟩
    refine ⟨_, rfl, sb, CS, sd, _, _, rfl, sD _ _ g1, T.c_Satellite.cl, T.n_Satellite_start_level, lk_Satellite_start_level, _, rfl, sb, CS, sd, _, _, rfl, sD _ _ g1, T.c_Satellite.cl, T.n_Satellite_reserve, lk_Satellite_reserve, _, _, rfl, rfl, ?_⟩
    refine ⟨_, rfl, _, rfl, D, _, 0, _, rfl, rfl, SqL.of upd_same, rfl, .ref sb, z, 0, (m : Int), rfl, ⟨sb, sd, ts, ls, rfl, sD _ _ g1, Same.tup sD g2, g3.same sD⟩, by omega, zok.charge.1, zok.charge.2, fun H1 s1 => ⟨_, _, rfl, rfl, ?_⟩⟩
    have e := q _ (sD.trans s1)
    rw [show rightW W (.energy s m) = z.level - z.reserve + z.charge * mw z.light 0 m from by show (match W.sats[s]? with | some z => z.level - z.reserve + z.charge * mw z.light 0 m | none => 0) = _; rw [hz]] at e
    exact e
  | efrom s m0 m =>
    refine ⟨_, rfl, t, _, rfl, ht, (by show 2 ≤ 4; decide), (by show 4 ≤ 1000; decide), fun D hD => ⟨_, _, rfl, _, _, rfl, _, _, rfl, rfl, ?_⟩⟩
    have sD := same_new hD (.lst (minV [m0, m]))
    obtain ⟨z, hz⟩ : ∃ z, W.sats[s]? = some z := ⟨_, List.getElem?_eq_getElem rok.num⟩
    have zok := wok.sats z (List.mem_of_getElem? hz)
    have hh := wok.horizon
    have ll := zok.light.len (by omega)
    obtain ⟨sb, sd, ts, ls, hsb, g1, g2, g3⟩ := rw_sat q0 hz
    refine ⟨_, rfl, rfl, _, rfl, iteF' (by show decide (V.str (Str.ofString "energy from") = V.str _) = false; decide +kernel) ?_⟩
    refine ⟨_, rfl, rfl, _, rfl, iteF' (by show decide (V.str (Str.ofString "energy from") = V.str _) = false; decide +kernel) ?_⟩
    refine ⟨_, rfl, rfl, _, rfl, iteF' (by show decide (V.str (Str.ofString "energy from") = V.str _) = false; decide +kernel) ?_⟩
    refine ⟨_, rfl, ac, CW, dx, _, _, rfl, sD _ _ gw, T.c_World.cl, T.n_World_satellites, lk_World_satellites, _, rfl, t0, x0, (s : Int), _, rfl, rfl, Same.tup sD p0, atI_nat hsb, ?_⟩
    refine ⟨_, rfl, rfl, _, rfl, iteF' (by show decide (V.str (Str.ofString "energy from") = V.str _) = false; decide +kernel) ?_⟩
    refine ⟨_, rfl, rfl, _, rfl, iteF' (by show decide (V.str (Str.ofString "energy from") = V.str _) = false; decide +kernel) ?_⟩
    refine ⟨_, rfl, D, _, rfl, SqL.of upd_same, rfl, _, _, rfl, _, _, rfl, rfl, ?_⟩
    refine ⟨_, rfl, sb, CS, sd, _, _, rfl, sD _ _ g1, T.c_Satellite.cl, T.n_Satellite_battery, lk_Satellite_battery, _, rfl, sb, CS, sd, _, _, rfl, sD _ _ g1, T.c_Satellite.cl, T.n_Satellite_reserve, lk_Satellite_reserve, _, _, rfl, rfl, ?_⟩
    refine ⟨_, rfl, _, rfl, _, _, rfl, rfl, _, rfl, .ref sb, z, (m0 : Int) + 1, (m : Int), rfl, ⟨sb, sd, ts, ls, rfl, sD _ _ g1, Same.tup sD g2, g3.same sD⟩, by omega, zok.charge.1, zok.charge.2, fun H1 s1 => ⟨_, _, rfl, rfl, ?_⟩⟩
    have e := q _ (sD.trans s1)
    rw [show rightW W (.efrom s m0 m) = z.battery - z.reserve + z.charge * mw z.light ((m0 : Int) + 1) m from by show (match W.sats[s]? with | some z => z.battery - z.reserve + z.charge * mw z.light ((m0 : Int) + 1) m | none => 0) = _; rw [hz]] at e
    exact e
end
end DP
namespace DP
open PySem PySem.Spec PyProof.Rows L2
abbrev s_recording_part : Stmt := topS 62
theorem sc_recording_part : FnScope ["world", "row", "r", "option", "word", "number", "minutes", "recording", "start", "p", "_", "end"] ["world", "row", "r", "option"] (defScope s_recording_part) := ⟨rfl, rfl, rfl, by decide +kernel, rfl, by decide +kernel, by decide +kernel⟩
abbrev s_pass_part : Stmt := topS 63
theorem sc_pass_part : FnScope ["world", "row", "p", "word", "number", "minutes", "chance", "turn", "is_in"] ["world", "row", "p"] (defScope s_pass_part) := ⟨rfl, rfl, rfl, by decide +kernel, rfl, by decide +kernel, by decide +kernel⟩
theorem rwSet_of {W : WorldD} {s : Nat} {z : SatD} (h : W.sats[s]? = some z) : rwSet W s = z.settle := by
  unfold rwSet
  rw [h]
theorem rwTurn_of {W : WorldD} {s : Nat} {z : StaD} (h : W.stas[s]? = some z) : rwTurn W s = z.turn := by
  unfold rwTurn
  rw [h]
theorem rwFin_of {W : WorldD} {k : Nat} {z : PasD} (h : W.pass[k]? = some z) : rwFin W (k : Int) = z.fin := by
  unfold rwFin
  rw [Int.toNat_natCast, h]
theorem sneg {a b : Nat} (h : (!decide (V.int (a : Int) = V.int (b : Int))) = true) : a ≠ b := fun e => by
  rw [e, decide_eq_true (rfl : V.int (b : Int) = V.int (b : Int))] at h
  cases h
theorem spos {a b : Nat} (h : ¬ (!decide (V.int (a : Int) = V.int (b : Int))) = true) : a = b := by
  by_cases c : V.int (a : Int) = V.int (b : Int)
  · have := V.int.inj c
    omega
  · rw [decide_eq_false c] at h
    exact absurd rfl h
section
variable {P : Program} {w : World} {K : PySem.W.Frag} {mg : Str → Option Value} {base : Heap} {CL CS CT CR CP CW aS aR fS fT fR fP : Addr}
def spRecPart (K : PySem.W.Frag) (CS CT CR CP CW : Addr) : Sp := fun vs H Q _ => ∃ (ac t u : Addr) (W : WorldD) (row : RowD) (r : Nat) (z : RecD) (st p : Int), vs = [.ref ac, .ref t, .int (r : Int), .ref u] ∧ WorldAt K CS CT CR CP CW H ac W ∧ SqT K H t (rowV row) ∧ RowOk W row ∧ W.recs[r]? = some z ∧ SqT K H u [.int st, .int p] ∧ 0 ≤ p ∧ p < (W.pass.length : Int) ∧ ∀ H', Same H H' → Q (.int (recPart W row z st p)) H'
set_option maxHeartbeats 8000000 in
theorem d_recording_part (T : TxtW K mg CL CS CT CR CP CW aS aR fS fT fR fP) (D_busy_part : DefOk P w K mg base CX0 2 "busy_part" ["world", "number", "span", "minute"] (spBusyP K CS CT CR CP CW)) (D_has_minute : DefOk P w K mg base CX0 1 "has_minute" ["span", "minute"] (spHasM K)) (D_is_spent : DefOk P w K mg base CX0 1 "is_spent" ["first", "minutes"] (spSpent K))
    (A : At K mg "recording_part" s_recording_part ["world", "row", "r", "option"]) : DefOk P w K mg base CX0 3 "recording_part" ["world", "row", "r", "option"] (spRecPart K CS CT CR CP CW) := by
  have B := T.L.B
  refine A.ok sc_recording_part (fun vs H Q E h => ?_) (fun f cdv A outer s H vs Q E hr h => ?_)
  · obtain ⟨ac, t, u, W, row, r, z, st, p, rfl, _⟩ := h
    rfl
  obtain ⟨ac, t, u, W, row, r, z, st, p, rfl, hW, ht, rok, hz, hu, p0, p1, q⟩ := h
  refine ⟨_, pss_cons (ps_asg (pv 1) (pg_star (i := 2) (by rfl) (pgs_cons (pg_name (i := 4) sc_recording_part.nd rfl (Or.inl rfl)) (pgs_cons (pg_name (i := 5) sc_recording_part.nd rfl (Or.inl rfl)) (pgs_consS (pg_name (i := 6) sc_recording_part.nd rfl (Or.inl rfl)) (pgs_nil))))))
  (pss_cons (ps_set (i := 7) sc_recording_part.nd rfl (Or.inl rfl) (pe_ix ix_tup (pe_fld (pv 0) rfl) (pv 2) (fun _ _ => rfl)))
  (pss_cons (ps_asg (pv 3) (pg_tup (by rfl) (pgs_cons (pg_name (i := 8) sc_recording_part.nd rfl (Or.inl rfl)) (pgs_cons (pg_name (i := 9) sc_recording_part.nd rfl (Or.inl rfl)) (pgs_nil)))))
  (pss_cons (ps_if (pt_cmpR op_eq (pv 4) pe_str (nomark _))
      (pss_one (ps_ret (pe_ifExp (pt_cmpR op_eq (pv 9) (pv 5) (nomark _)) (pe_fld (pv 7) rfl) pe_int)))
      (pss_nil))
  (pss_cons (ps_if (PW.pt (pw_or (pt_cmpR op_eq (pv 4) pe_str (nomark _)) (pw_or1 (pt_cmpR op_ne (pe_fld (pv 7) rfl) (pv 5) (nomark _)))))
      (pss_one (ps_ret pe_int))
      (pss_nil))
  (pss_cons (ps_if (pt_cmpR op_eq (pv 4) pe_str (nomark _))
      (pss_one (ps_ret (pe_f D_busy_part (hr.mono (by omega)) pass0 (pa_cons (pv 0) (pa_cons (pv 5) (pa_cons (pe_tup (pa_cons (pv 8) (pa_cons (pe_op op_add (pv 8) (pe_fld (pv 7) rfl)) pa_nil))) (pa_cons (pe_ix ix_list (pv 6) pe_int (fun _ _ => rfl)) pa_nil)))))))
      (pss_nil))
  (pss_cons (ps_if (pt_cmpR op_eq (pv 4) pe_str (nomark _))
      (pss_cons (ps_asg (pe_fld (pe_ix ix_tup (pe_fld (pv 0) rfl) (pv 9) (fun _ _ => rfl)) rfl) (pg_tup (by rfl) (pgs_cons (pg_name (i := 10) sc_recording_part.nd rfl (Or.inl rfl)) (pgs_cons (pg_name (i := 11) sc_recording_part.nd rfl (Or.inl rfl)) (pgs_nil)))))
      (pss_one (ps_ret (pe_ifExp (pt_val (pe_f D_has_minute (hr.mono (by omega)) pass0 (pa_cons (pe_tup (pa_cons (pv 8) (pa_cons (pv 11) pa_nil))) (pa_cons (pe_ix ix_list (pv 6) pe_int (fun _ _ => rfl)) pa_nil)))) (pe_fld (pv 7) rfl) pe_int))))
      (pss_nil))
  (pss_one (ps_ret (pe_ifExp (pt_val (pe_f D_is_spent (hr.mono (by omega)) pass0 (pa_cons (pv 8) (pa_cons (pv 6) pa_nil)))) (pe_fld (pv 7) rfl) pe_int)))))))))
    , ?_⟩
  obtain ⟨dx, t0, t1, t2, t3, x0, x1, x2, x3, gw, j0, q0, j1, q1, j2, q2, j3, q3⟩ := hW.ex
  obtain ⟨ob, od, hob, o1⟩ := rw_rec q2 hz
  obtain ⟨pk, ek⟩ : ∃ pk : Nat, p = (pk : Int) := ⟨p.toNat, by omega⟩
  subst ek
  obtain ⟨y, hy⟩ : ∃ y, W.pass[pk]? = some y := ⟨_, List.getElem?_eq_getElem (by omega)⟩
  obtain ⟨pb, pd, ts, hpb, c1, c2⟩ := rw_pas q3 hy
  -- the head of the def, up to the words
  have head : ∀ (D : Addr) (ms : List Nat) (H1 : Hp), Same H H1 → H1 D = some (.lst (minV ms)) → True := fun _ _ _ _ _ => True.intro
  cases row with
  | room k =>
    refine ⟨_, rfl, t, _, rfl, ht, (by show 2 ≤ 2; decide), (by show 2 ≤ 1000; decide), fun D hD => ⟨_, _, rfl, _, _, rfl, _, _, rfl, rfl, ?_⟩⟩
    have sD := same_new hD (.lst (minV []))
    refine ⟨_, rfl, ac, CW, dx, _, _, rfl, sD _ _ gw, T.c_World.cl, T.n_World_recordings, lk_World_recordings, _, rfl, t2, x2, (r : Int), _, rfl, rfl, Same.tup sD j2, atI_nat hob, ?_⟩
    refine ⟨_, rfl, u, _, rfl, Same.tup sD hu, rfl, _, _, rfl, _, _, rfl, rfl, ?_⟩
    refine ⟨_, rfl, rfl, _, rfl, iteT' (by show decide (V.str (Str.ofString "room") = V.str _) = true; decide +kernel) ?_⟩
    have e := q _ sD
    refine ⟨_, rfl, _, rfl, rfl, _, rfl, ite2 (fun k1 => ?_) (fun k1 => ?_)⟩
    · have h1 := V.int.inj (of_decide_eq_true k1)
      rw [show recPart W (.room k) z st (pk : Int) = z.size from if_pos h1] at e
      exact ⟨_, rfl, ob, CR, od, _, _, rfl, sD _ _ o1, T.c_Recording.cl, T.n_Recording_size, lk_Recording_size, e⟩
    · have h1 : ¬ (pk : Int) = (k : Int) := fun h => k1 (decide_eq_true (by rw [h]; rfl))
      rw [show recPart W (.room k) z st (pk : Int) = 0 from if_neg h1] at e
      exact e
  | sta s m =>
    refine ⟨_, rfl, t, _, rfl, ht, (by show 2 ≤ 3; decide), (by show 3 ≤ 1000; decide), fun D hD => ⟨_, _, rfl, _, _, rfl, _, _, rfl, rfl, ?_⟩⟩
    have sD := same_new hD (.lst (minV [m]))
    refine ⟨_, rfl, ac, CW, dx, _, _, rfl, sD _ _ gw, T.c_World.cl, T.n_World_recordings, lk_World_recordings, _, rfl, t2, x2, (r : Int), _, rfl, rfl, Same.tup sD j2, atI_nat hob, ?_⟩
    refine ⟨_, rfl, u, _, rfl, Same.tup sD hu, rfl, _, _, rfl, _, _, rfl, rfl, ?_⟩
    refine ⟨_, rfl, rfl, _, rfl, iteF' (by show decide (V.str (Str.ofString "station") = V.str _) = false; decide +kernel) ?_⟩
    exact ⟨_, rfl, rfl, _, rfl, iteT' (by show decide (V.str (Str.ofString "station") = V.str _) = true; decide +kernel) (iteT' rfl (q _ sD))⟩
  | sat s m =>
    refine ⟨_, rfl, t, _, rfl, ht, (by show 2 ≤ 3; decide), (by show 3 ≤ 1000; decide), fun D hD => ⟨_, _, rfl, _, _, rfl, _, _, rfl, rfl, ?_⟩⟩
    have sD := same_new hD (.lst (minV [m]))
    obtain ⟨zs, hzs⟩ : ∃ z, W.sats[s]? = some z := ⟨_, List.getElem?_eq_getElem rok.num⟩
    refine ⟨_, rfl, ac, CW, dx, _, _, rfl, sD _ _ gw, T.c_World.cl, T.n_World_recordings, lk_World_recordings, _, rfl, t2, x2, (r : Int), _, rfl, rfl, Same.tup sD j2, atI_nat hob, ?_⟩
    refine ⟨_, rfl, u, _, rfl, Same.tup sD hu, rfl, _, _, rfl, _, _, rfl, rfl, ?_⟩
    refine ⟨_, rfl, rfl, _, rfl, iteF' (by show decide (V.str (Str.ofString "satellite") = V.str _) = false; decide +kernel) ?_⟩
    refine ⟨_, rfl, rfl, _, rfl, iteF' (by show decide (V.str (Str.ofString "satellite") = V.str _) = false; decide +kernel) ?_⟩
    refine ⟨_, rfl, ob, CR, od, _, _, rfl, sD _ _ o1, T.c_Recording.cl, T.n_Recording_satellite, lk_Recording_satellite, _, rfl, rfl, _, rfl, ite2 (fun k1 => ?_) (fun k1 => ?_)⟩
    · have e := q _ sD
      rw [show recPart W (.sat s m) z st (pk : Int) = 0 from if_neg (sneg k1)] at e
      exact e
    · have es := spos k1
      refine ⟨_, rfl, rfl, _, rfl, iteT' (by show decide (V.str (Str.ofString "satellite") = V.str _) = true; decide +kernel) ?_⟩
      refine ⟨_, rfl, _, rfl, _, rfl, _, rfl, _, rfl, ob, CR, od, _, _, rfl, sD _ _ o1, T.c_Recording.cl, T.n_Recording_length, lk_Recording_length, _, _, rfl, rfl, sz2_, fun v hv => ?_⟩
      have sv := sD.trans (same_new hv (.tup [.int st, .int (st + z.length)]))
      refine ⟨_, rfl, D, _, 0, _, rfl, rfl, SqL.of (same_new hv _ _ _ upd_same), rfl, ac, v, W, s, zs, (st, st + z.length), (m : Int), rfl, hW.same sv, hzs, SqT.of upd_same, fun H2 s2 => ?_⟩
      have e := q _ (sv.trans s2)
      rw [show recPart W (.sat s m) z st (pk : Int) = if inM m st (st + z.length + rwSet W s) = true then 1 else 0 from if_pos es, rwSet_of hzs] at e
      exact e
  | store s m =>
    refine ⟨_, rfl, t, _, rfl, ht, (by show 2 ≤ 3; decide), (by show 3 ≤ 1000; decide), fun D hD => ⟨_, _, rfl, _, _, rfl, _, _, rfl, rfl, ?_⟩⟩
    have sD := same_new hD (.lst (minV [m]))
    refine ⟨_, rfl, ac, CW, dx, _, _, rfl, sD _ _ gw, T.c_World.cl, T.n_World_recordings, lk_World_recordings, _, rfl, t2, x2, (r : Int), _, rfl, rfl, Same.tup sD j2, atI_nat hob, ?_⟩
    refine ⟨_, rfl, u, _, rfl, Same.tup sD hu, rfl, _, _, rfl, _, _, rfl, rfl, ?_⟩
    refine ⟨_, rfl, rfl, _, rfl, iteF' (by show decide (V.str (Str.ofString "store") = V.str _) = false; decide +kernel) ?_⟩
    refine ⟨_, rfl, rfl, _, rfl, iteF' (by show decide (V.str (Str.ofString "store") = V.str _) = false; decide +kernel) ?_⟩
    refine ⟨_, rfl, ob, CR, od, _, _, rfl, sD _ _ o1, T.c_Recording.cl, T.n_Recording_satellite, lk_Recording_satellite, _, rfl, rfl, _, rfl, ite2 (fun k1 => ?_) (fun k1 => ?_)⟩
    · have e := q _ sD
      rw [show recPart W (.store s m) z st (pk : Int) = 0 from if_neg (sneg k1)] at e
      exact e
    · have es := spos k1
      refine ⟨_, rfl, rfl, _, rfl, iteF' (by show decide (V.str (Str.ofString "store") = V.str _) = false; decide +kernel) ?_⟩
      refine ⟨_, rfl, rfl, _, rfl, iteT' (by show decide (V.str (Str.ofString "store") = V.str _) = true; decide +kernel) ?_⟩
      refine ⟨_, rfl, ac, CW, dx, _, _, rfl, sD _ _ gw, T.c_World.cl, T.n_World_passes, lk_World_passes, _, rfl, t3, x3, (pk : Int), _, rfl, rfl, Same.tup sD j3, atI_nat hpb, pb, CP, pd, _, _, rfl, sD _ _ c1, T.c_Pass.cl, T.n_Pass_span, lk_Pass_span, ?_⟩
      refine ⟨ts, _, rfl, Same.tup sD c2, rfl, _, _, rfl, _, _, rfl, rfl, ?_⟩
      refine ⟨_, rfl, _, rfl, sz2_, fun v hv => ?_⟩
      have sv := sD.trans (same_new hv (.tup [.int st, .int y.fin]))
      refine ⟨_, rfl, D, _, 0, _, rfl, rfl, SqL.of (same_new hv _ _ _ upd_same), rfl, v, (st, y.fin), (m : Int), rfl, SqT.of upd_same, _, rfl, ?_⟩
      have e := q _ sv
      rw [show recPart W (.store s m) z st (pk : Int) = if inM m st (rwFin W (pk : Int)) = true then z.size else 0 from if_pos es, rwFin_of hy] at e
      refine ite2 (fun k2 => ?_) (fun k2 => ?_)
      · rw [if_pos k2] at e
        exact ⟨_, rfl, ob, CR, od, _, _, rfl, sv _ _ o1, T.c_Recording.cl, T.n_Recording_size, lk_Recording_size, e⟩
      · rw [if_neg k2] at e
        exact e
  | energy s m =>
    refine ⟨_, rfl, t, _, rfl, ht, (by show 2 ≤ 3; decide), (by show 3 ≤ 1000; decide), fun D hD => ⟨_, _, rfl, _, _, rfl, _, _, rfl, rfl, ?_⟩⟩
    have sD := same_new hD (.lst (minV [m]))
    refine ⟨_, rfl, ac, CW, dx, _, _, rfl, sD _ _ gw, T.c_World.cl, T.n_World_recordings, lk_World_recordings, _, rfl, t2, x2, (r : Int), _, rfl, rfl, Same.tup sD j2, atI_nat hob, ?_⟩
    refine ⟨_, rfl, u, _, rfl, Same.tup sD hu, rfl, _, _, rfl, _, _, rfl, rfl, ?_⟩
    refine ⟨_, rfl, rfl, _, rfl, iteF' (by show decide (V.str (Str.ofString "energy") = V.str _) = false; decide +kernel) ?_⟩
    refine ⟨_, rfl, rfl, _, rfl, iteF' (by show decide (V.str (Str.ofString "energy") = V.str _) = false; decide +kernel) ?_⟩
    refine ⟨_, rfl, ob, CR, od, _, _, rfl, sD _ _ o1, T.c_Recording.cl, T.n_Recording_satellite, lk_Recording_satellite, _, rfl, rfl, _, rfl, ite2 (fun k1 => ?_) (fun k1 => ?_)⟩
    · have e := q _ sD
      rw [show recPart W (.energy s m) z st (pk : Int) = 0 from if_neg (sneg k1)] at e
      exact e
    · have es := spos k1
      refine ⟨_, rfl, rfl, _, rfl, iteF' (by show decide (V.str (Str.ofString "energy") = V.str _) = false; decide +kernel) ?_⟩
      refine ⟨_, rfl, rfl, _, rfl, iteF' (by show decide (V.str (Str.ofString "energy") = V.str _) = false; decide +kernel) ?_⟩
      refine ⟨_, rfl, _, rfl, D, st, [m], rfl, SqL.of upd_same, .inl ⟨m, rfl, _, rfl, ?_⟩⟩
      have e := q _ sD
      rw [show recPart W (.energy s m) z st (pk : Int) = if st ≤ (m : Int) then z.energy else 0 from if_pos es] at e
      refine ite2 (fun k2 => ?_) (fun k2 => ?_)
      · rw [if_pos (of_decide_eq_true k2)] at e
        exact ⟨_, rfl, ob, CR, od, _, _, rfl, sD _ _ o1, T.c_Recording.cl, T.n_Recording_energy, lk_Recording_energy, e⟩
      · rw [if_neg (fun h => k2 (decide_eq_true h))] at e
        exact e
  | efrom s m0 m =>
    refine ⟨_, rfl, t, _, rfl, ht, (by show 2 ≤ 4; decide), (by show 4 ≤ 1000; decide), fun D hD => ⟨_, _, rfl, _, _, rfl, _, _, rfl, rfl, ?_⟩⟩
    have sD := same_new hD (.lst (minV [m0, m]))
    refine ⟨_, rfl, ac, CW, dx, _, _, rfl, sD _ _ gw, T.c_World.cl, T.n_World_recordings, lk_World_recordings, _, rfl, t2, x2, (r : Int), _, rfl, rfl, Same.tup sD j2, atI_nat hob, ?_⟩
    refine ⟨_, rfl, u, _, rfl, Same.tup sD hu, rfl, _, _, rfl, _, _, rfl, rfl, ?_⟩
    refine ⟨_, rfl, rfl, _, rfl, iteF' (by show decide (V.str (Str.ofString "energy from") = V.str _) = false; decide +kernel) ?_⟩
    refine ⟨_, rfl, rfl, _, rfl, iteF' (by show decide (V.str (Str.ofString "energy from") = V.str _) = false; decide +kernel) ?_⟩
    refine ⟨_, rfl, ob, CR, od, _, _, rfl, sD _ _ o1, T.c_Recording.cl, T.n_Recording_satellite, lk_Recording_satellite, _, rfl, rfl, _, rfl, ite2 (fun k1 => ?_) (fun k1 => ?_)⟩
    · have e := q _ sD
      rw [show recPart W (.efrom s m0 m) z st (pk : Int) = 0 from if_neg (sneg k1)] at e
      exact e
    · have es := spos k1
      refine ⟨_, rfl, rfl, _, rfl, iteF' (by show decide (V.str (Str.ofString "energy from") = V.str _) = false; decide +kernel) ?_⟩
      refine ⟨_, rfl, rfl, _, rfl, iteF' (by show decide (V.str (Str.ofString "energy from") = V.str _) = false; decide +kernel) ?_⟩
      refine ⟨_, rfl, _, rfl, D, st, [m0, m], rfl, SqL.of upd_same, .inr ⟨m0, m, rfl, _, rfl, ?_⟩⟩
      have e := q _ sD
      rw [show recPart W (.efrom s m0 m) z st (pk : Int) = if st ≤ (m : Int) ∧ (m0 : Int) < st then z.energy else 0 from if_pos es] at e
      refine ite2 (fun k2 => ?_) (fun k2 => ?_)
      · rw [if_pos (of_decide_eq_true k2)] at e
        exact ⟨_, rfl, ob, CR, od, _, _, rfl, sD _ _ o1, T.c_Recording.cl, T.n_Recording_energy, lk_Recording_energy, e⟩
      · rw [if_neg (fun h => k2 (decide_eq_true h))] at e
        exact e
def spPasPart (K : PySem.W.Frag) (CS CT CR CP CW : Addr) : Sp := fun vs H Q _ => ∃ (ac t : Addr) (W : WorldD) (row : RowD) (k : Nat) (z : PasD), vs = [.ref ac, .ref t, .int (k : Int)] ∧ WorldOk W ∧ WorldAt K CS CT CR CP CW H ac W ∧ SqT K H t (rowV row) ∧ RowOk W row ∧ W.pass[k]? = some z ∧ ∀ H', Same H H' → Q (.int (pasPart W row k z)) H'
set_option maxHeartbeats 8000000 in
theorem d_pass_part (T : TxtW K mg CL CS CT CR CP CW aS aR fS fT fR fP) (D_busy_part : DefOk P w K mg base CX0 2 "busy_part" ["world", "number", "span", "minute"] (spBusyP K CS CT CR CP CW)) (D_has_minute : DefOk P w K mg base CX0 1 "has_minute" ["span", "minute"] (spHasM K)) (D_lengthened : DefOk P w K mg base CX0 1 "lengthened" ["span", "minutes"] (spLength K)) (D_is_spent : DefOk P w K mg base CX0 1 "is_spent" ["first", "minutes"] (spSpent K))
    (A : At K mg "pass_part" s_pass_part ["world", "row", "p"]) : DefOk P w K mg base CX0 3 "pass_part" ["world", "row", "p"] (spPasPart K CS CT CR CP CW) := by
  have B := T.L.B
  refine A.ok sc_pass_part (fun vs H Q E h => ?_) (fun f cdv A outer s H vs Q E hr h => ?_)
  · obtain ⟨ac, t, W, row, k, z, rfl, _⟩ := h
    rfl
  obtain ⟨ac, t, W, row, k, z, rfl, wok, hW, ht, rok, hz, q⟩ := h
  refine ⟨_, pss_cons (ps_asg (pv 1) (pg_star (i := 2) (by rfl) (pgs_cons (pg_name (i := 3) sc_pass_part.nd rfl (Or.inl rfl)) (pgs_cons (pg_name (i := 4) sc_pass_part.nd rfl (Or.inl rfl)) (pgs_consS (pg_name (i := 5) sc_pass_part.nd rfl (Or.inl rfl)) (pgs_nil))))))
  (pss_cons (ps_set (i := 6) sc_pass_part.nd rfl (Or.inl rfl) (pe_ix ix_tup (pe_fld (pv 0) rfl) (pv 2) (fun _ _ => rfl)))
  (pss_cons (ps_if (pt_cmpR op_eq (pv 3) pe_str (nomark _))
      (pss_one (ps_ret (pe_ifExp (pt_cmpR op_eq (pv 2) (pv 4) (nomark _)) (pe_un un_neg (pe_fld (pv 6) rfl)) pe_int)))
      (pss_nil))
  (pss_cons (ps_if (pt_cmpR op_eq (pv 3) pe_str (nomark _))
      (pss_cons (ps_set (i := 7) sc_pass_part.nd rfl (Or.inl rfl) (pe_fld (pe_ix ix_tup (pe_fld (pv 0) rfl) (pe_fld (pv 6) rfl) (fun _ _ => rfl)) rfl))
      (pss_cons (ps_set (i := 8) sc_pass_part.nd rfl (Or.inl rfl) (pe_and (pe_cmpR op_eq (pe_fld (pv 6) rfl) (pv 4) (nomark _)) (pe_one (pe_f D_has_minute (hr.mono (by omega)) pass0 (pa_cons (pe_f D_lengthened (hr.mono (by omega)) pass0 (pa_cons (pe_fld (pv 6) rfl) (pa_cons (pv 7) pa_nil))) (pa_cons (pe_ix ix_list (pv 5) pe_int (fun _ _ => rfl)) pa_nil))))))
      (pss_one (ps_ret (pe_ifExp (pt_val (pv 8)) pe_int pe_int)))))
      (pss_nil))
  (pss_cons (ps_if (PW.pt (pw_or (pt_cmpR op_eq (pv 3) pe_str (nomark _)) (pw_or1 (pt_cmpR op_ne (pe_fld (pv 6) rfl) (pv 4) (nomark _)))))
      (pss_one (ps_ret pe_int))
      (pss_nil))
  (pss_cons (ps_if (pt_cmpR op_eq (pv 3) pe_str (nomark _))
      (pss_one (ps_ret (pe_f D_busy_part (hr.mono (by omega)) pass0 (pa_cons (pv 0) (pa_cons (pv 4) (pa_cons (pe_fld (pv 6) rfl) (pa_cons (pe_ix ix_list (pv 5) pe_int (fun _ _ => rfl)) pa_nil)))))))
      (pss_nil))
  (pss_one (ps_ret (pe_ifExp (pt_val (pe_f D_is_spent (hr.mono (by omega)) pass0 (pa_cons (pe_ix ix_tup (pe_fld (pv 6) rfl) pe_int (fun _ _ => rfl)) (pa_cons (pv 5) pa_nil)))) (pe_fld (pv 6) rfl) pe_int))))))))
    , ?_⟩
  obtain ⟨dx, t0, t1, t2, t3, x0, x1, x2, x3, gw, j0, q0, j1, q1, j2, q2, j3, q3⟩ := hW.ex
  obtain ⟨pb, pd, ts, hpb, c1, c2⟩ := rw_pas q3 hz
  have zok := wok.pass z (List.mem_of_getElem? hz)
  cases row with
  | room k2 =>
    refine ⟨_, rfl, t, _, rfl, ht, (by show 2 ≤ 2; decide), (by show 2 ≤ 1000; decide), fun D hD => ⟨_, _, rfl, _, _, rfl, _, _, rfl, rfl, ?_⟩⟩
    have sD := same_new hD (.lst (minV []))
    refine ⟨_, rfl, ac, CW, dx, _, _, rfl, sD _ _ gw, T.c_World.cl, T.n_World_passes, lk_World_passes, _, rfl, t3, x3, (k : Int), _, rfl, rfl, Same.tup sD j3, atI_nat hpb, ?_⟩
    refine ⟨_, rfl, rfl, _, rfl, iteT' (by show decide (V.str (Str.ofString "room") = V.str _) = true; decide +kernel) ?_⟩
    have e := q _ sD
    refine ⟨_, rfl, _, rfl, rfl, _, rfl, ite2 (fun k1 => ?_) (fun k1 => ?_)⟩
    · have h1 := V.int.inj (of_decide_eq_true k1)
      rw [show pasPart W (.room k2) k z = -z.room from if_pos (by have : (k : Int) = (k2 : Int) := h1; omega)] at e
      exact ⟨_, rfl, pb, CP, pd, _, _, rfl, sD _ _ c1, T.c_Pass.cl, T.n_Pass_room, lk_Pass_room, _, rfl, e⟩
    · have h1 : ¬ k = k2 := fun h => k1 (decide_eq_true (by rw [h]; rfl))
      rw [show pasPart W (.room k2) k z = 0 from if_neg h1] at e
      exact e
  | sta s m =>
    refine ⟨_, rfl, t, _, rfl, ht, (by show 2 ≤ 3; decide), (by show 3 ≤ 1000; decide), fun D hD => ⟨_, _, rfl, _, _, rfl, _, _, rfl, rfl, ?_⟩⟩
    have sD := same_new hD (.lst (minV [m]))
    obtain ⟨zt, hzt⟩ : ∃ zt, W.stas[z.sta]? = some zt := ⟨_, List.getElem?_eq_getElem zok.sta⟩
    obtain ⟨sb, sd, hsb, g1⟩ := rw_sta q1 hzt
    refine ⟨_, rfl, ac, CW, dx, _, _, rfl, sD _ _ gw, T.c_World.cl, T.n_World_passes, lk_World_passes, _, rfl, t3, x3, (k : Int), _, rfl, rfl, Same.tup sD j3, atI_nat hpb, ?_⟩
    refine ⟨_, rfl, rfl, _, rfl, iteF' (by show decide (V.str (Str.ofString "station") = V.str _) = false; decide +kernel) ?_⟩
    refine ⟨_, rfl, rfl, _, rfl, iteT' (by show decide (V.str (Str.ofString "station") = V.str _) = true; decide +kernel) ?_⟩
    refine ⟨_, rfl, ac, CW, dx, _, _, rfl, sD _ _ gw, T.c_World.cl, T.n_World_stations, lk_World_stations, _, rfl, pb, CP, pd, _, _, rfl, sD _ _ c1, T.c_Pass.cl, T.n_Pass_station, lk_Pass_station, t1, x1, (z.sta : Int), _, rfl, rfl, Same.tup sD j1, atI_nat hsb, sb, CT, sd, _, _, rfl, sD _ _ g1, T.c_Station.cl, T.n_Station_turn, lk_Station_turn, ?_⟩
    have ee := fun (H' : Hp) (s' : Same H H') => q H' s'
    refine ⟨_, rfl, pb, CP, pd, _, _, rfl, sD _ _ c1, T.c_Pass.cl, T.n_Pass_station, lk_Pass_station, _, rfl, rfl, _, rfl, ite2 (fun k1 => ?_) (fun k1 => ?_)⟩
    · have es : z.sta = s := by
        have := V.int.inj (of_decide_eq_true k1)
        have : (z.sta : Int) = (s : Int) := this
        omega
      subst es
      refine ⟨_, rfl, pb, CP, pd, _, _, rfl, sD _ _ c1, T.c_Pass.cl, T.n_Pass_span, lk_Pass_span, _, rfl, ts, (z.first, z.fin), zt.turn, rfl, Same.tup sD c2, fun t1 H1 s1 h1 => ?_⟩
      refine ⟨_, rfl, D, _, 0, _, rfl, rfl, SqL.of (s1 _ _ upd_same), rfl, t1, (z.first, z.fin + zt.turn), (m : Int), rfl, h1, _, rfl, _, rfl, ?_⟩
      have e := q _ (sD.trans s1)
      rw [show pasPart W (.sta z.sta m) k z = if inM m z.first (z.fin + rwTurn W z.sta) = true then 1 else 0 from if_pos rfl, rwTurn_of hzt] at e
      refine ite2 (fun k2 => ?_) (fun k2 => ?_)
      · rw [if_pos k2] at e
        exact e
      · rw [if_neg k2] at e
        exact e
    · have es : ¬ z.sta = s := fun h => k1 (decide_eq_true (by rw [h]; rfl))
      have e := q _ sD
      rw [show pasPart W (.sta s m) k z = 0 from if_neg es] at e
      exact ⟨_, rfl, _, rfl, iteF' rfl e⟩
  | sat s m =>
    refine ⟨_, rfl, t, _, rfl, ht, (by show 2 ≤ 3; decide), (by show 3 ≤ 1000; decide), fun D hD => ⟨_, _, rfl, _, _, rfl, _, _, rfl, rfl, ?_⟩⟩
    have sD := same_new hD (.lst (minV [m]))
    refine ⟨_, rfl, ac, CW, dx, _, _, rfl, sD _ _ gw, T.c_World.cl, T.n_World_passes, lk_World_passes, _, rfl, t3, x3, (k : Int), _, rfl, rfl, Same.tup sD j3, atI_nat hpb, ?_⟩
    refine ⟨_, rfl, rfl, _, rfl, iteF' (by show decide (V.str (Str.ofString "satellite") = V.str _) = false; decide +kernel) ?_⟩
    refine ⟨_, rfl, rfl, _, rfl, iteF' (by show decide (V.str (Str.ofString "satellite") = V.str _) = false; decide +kernel) ?_⟩
    refine ⟨_, rfl, rfl, _, rfl, iteF' (by show decide (V.str (Str.ofString "satellite") = V.str _) = false; decide +kernel) ?_⟩
    refine ⟨_, rfl, pb, CP, pd, _, _, rfl, sD _ _ c1, T.c_Pass.cl, T.n_Pass_satellite, lk_Pass_satellite, _, rfl, rfl, _, rfl, ite2 (fun k1 => ?_) (fun k1 => ?_)⟩
    · have e := q _ sD
      rw [show pasPart W (.sat s m) k z = 0 from if_neg (sneg k1)] at e
      exact e
    · have es := spos k1
      obtain ⟨zs, hzs⟩ : ∃ zs, W.sats[s]? = some zs := ⟨_, List.getElem?_eq_getElem rok.num⟩
      refine ⟨_, rfl, rfl, _, rfl, iteT' (by show decide (V.str (Str.ofString "satellite") = V.str _) = true; decide +kernel) ?_⟩
      refine ⟨_, rfl, _, rfl, _, rfl, pb, CP, pd, _, _, rfl, sD _ _ c1, T.c_Pass.cl, T.n_Pass_span, lk_Pass_span, _, rfl, D, _, 0, _, rfl, rfl, SqL.of upd_same, rfl, ac, ts, W, s, zs, (z.first, z.fin), (m : Int), rfl, hW.same sD, hzs, Same.tup sD c2, fun H2 s2 => ?_⟩
      have e := q _ (sD.trans s2)
      rw [show pasPart W (.sat s m) k z = if inM m z.first (z.fin + rwSet W s) = true then 1 else 0 from if_pos es, rwSet_of hzs] at e
      exact e
  | store s m =>
    refine ⟨_, rfl, t, _, rfl, ht, (by show 2 ≤ 3; decide), (by show 3 ≤ 1000; decide), fun D hD => ⟨_, _, rfl, _, _, rfl, _, _, rfl, rfl, ?_⟩⟩
    have sD := same_new hD (.lst (minV [m]))
    refine ⟨_, rfl, ac, CW, dx, _, _, rfl, sD _ _ gw, T.c_World.cl, T.n_World_passes, lk_World_passes, _, rfl, t3, x3, (k : Int), _, rfl, rfl, Same.tup sD j3, atI_nat hpb, ?_⟩
    refine ⟨_, rfl, rfl, _, rfl, iteF' (by show decide (V.str (Str.ofString "store") = V.str _) = false; decide +kernel) ?_⟩
    refine ⟨_, rfl, rfl, _, rfl, iteF' (by show decide (V.str (Str.ofString "store") = V.str _) = false; decide +kernel) ?_⟩
    exact ⟨_, rfl, rfl, _, rfl, iteT' (by show decide (V.str (Str.ofString "store") = V.str _) = true; decide +kernel) (iteT' rfl (q _ sD))⟩
  | energy s m =>
    refine ⟨_, rfl, t, _, rfl, ht, (by show 2 ≤ 3; decide), (by show 3 ≤ 1000; decide), fun D hD => ⟨_, _, rfl, _, _, rfl, _, _, rfl, rfl, ?_⟩⟩
    have sD := same_new hD (.lst (minV [m]))
    refine ⟨_, rfl, ac, CW, dx, _, _, rfl, sD _ _ gw, T.c_World.cl, T.n_World_passes, lk_World_passes, _, rfl, t3, x3, (k : Int), _, rfl, rfl, Same.tup sD j3, atI_nat hpb, ?_⟩
    refine ⟨_, rfl, rfl, _, rfl, iteF' (by show decide (V.str (Str.ofString "energy") = V.str _) = false; decide +kernel) ?_⟩
    refine ⟨_, rfl, rfl, _, rfl, iteF' (by show decide (V.str (Str.ofString "energy") = V.str _) = false; decide +kernel) ?_⟩
    refine ⟨_, rfl, rfl, _, rfl, iteF' (by show decide (V.str (Str.ofString "energy") = V.str _) = false; decide +kernel) ?_⟩
    refine ⟨_, rfl, pb, CP, pd, _, _, rfl, sD _ _ c1, T.c_Pass.cl, T.n_Pass_satellite, lk_Pass_satellite, _, rfl, rfl, _, rfl, ite2 (fun k1 => ?_) (fun k1 => ?_)⟩
    · have e := q _ sD
      rw [show pasPart W (.energy s m) k z = 0 from if_neg (sneg k1)] at e
      exact e
    · have es := spos k1
      refine ⟨_, rfl, rfl, _, rfl, iteF' (by show decide (V.str (Str.ofString "energy") = V.str _) = false; decide +kernel) ?_⟩
      refine ⟨_, rfl, pb, CP, pd, _, _, rfl, sD _ _ c1, T.c_Pass.cl, T.n_Pass_span, lk_Pass_span, ts, _, 0, _, rfl, rfl, Same.tup sD c2, rfl, _, rfl, D, z.first, [m], rfl, SqL.of upd_same, .inl ⟨m, rfl, _, rfl, ?_⟩⟩
      have e := q _ sD
      rw [show pasPart W (.energy s m) k z = if z.first ≤ (m : Int) then z.energy else 0 from if_pos es] at e
      refine ite2 (fun k2 => ?_) (fun k2 => ?_)
      · rw [if_pos (of_decide_eq_true k2)] at e
        exact ⟨_, rfl, pb, CP, pd, _, _, rfl, sD _ _ c1, T.c_Pass.cl, T.n_Pass_energy, lk_Pass_energy, e⟩
      · rw [if_neg (fun h => k2 (decide_eq_true h))] at e
        exact e
  | efrom s m0 m =>
    refine ⟨_, rfl, t, _, rfl, ht, (by show 2 ≤ 4; decide), (by show 4 ≤ 1000; decide), fun D hD => ⟨_, _, rfl, _, _, rfl, _, _, rfl, rfl, ?_⟩⟩
    have sD := same_new hD (.lst (minV [m0, m]))
    refine ⟨_, rfl, ac, CW, dx, _, _, rfl, sD _ _ gw, T.c_World.cl, T.n_World_passes, lk_World_passes, _, rfl, t3, x3, (k : Int), _, rfl, rfl, Same.tup sD j3, atI_nat hpb, ?_⟩
    refine ⟨_, rfl, rfl, _, rfl, iteF' (by show decide (V.str (Str.ofString "energy from") = V.str _) = false; decide +kernel) ?_⟩
    refine ⟨_, rfl, rfl, _, rfl, iteF' (by show decide (V.str (Str.ofString "energy from") = V.str _) = false; decide +kernel) ?_⟩
    refine ⟨_, rfl, rfl, _, rfl, iteF' (by show decide (V.str (Str.ofString "energy from") = V.str _) = false; decide +kernel) ?_⟩
    refine ⟨_, rfl, pb, CP, pd, _, _, rfl, sD _ _ c1, T.c_Pass.cl, T.n_Pass_satellite, lk_Pass_satellite, _, rfl, rfl, _, rfl, ite2 (fun k1 => ?_) (fun k1 => ?_)⟩
    · have e := q _ sD
      rw [show pasPart W (.efrom s m0 m) k z = 0 from if_neg (sneg k1)] at e
      exact e
    · have es := spos k1
      refine ⟨_, rfl, rfl, _, rfl, iteF' (by show decide (V.str (Str.ofString "energy from") = V.str _) = false; decide +kernel) ?_⟩
      refine ⟨_, rfl, pb, CP, pd, _, _, rfl, sD _ _ c1, T.c_Pass.cl, T.n_Pass_span, lk_Pass_span, ts, _, 0, _, rfl, rfl, Same.tup sD c2, rfl, _, rfl, D, z.first, [m0, m], rfl, SqL.of upd_same, .inr ⟨m0, m, rfl, _, rfl, ?_⟩⟩
      have e := q _ sD
      rw [show pasPart W (.efrom s m0 m) k z = if z.first ≤ (m : Int) ∧ (m0 : Int) < z.first then z.energy else 0 from if_pos es] at e
      refine ite2 (fun k2 => ?_) (fun k2 => ?_)
      · rw [if_pos (of_decide_eq_true k2)] at e
        exact ⟨_, rfl, pb, CP, pd, _, _, rfl, sD _ _ c1, T.c_Pass.cl, T.n_Pass_energy, lk_Pass_energy, e⟩
      · rw [if_neg (fun h => k2 (decide_eq_true h))] at e
        exact e
end
end DP
namespace DP
open PySem PySem.Spec PyProof.Rows L2
abbrev s_is_integer : Stmt := topS 8
theorem sc_is_integer : FnScope ["thing"] ["thing"] (defScope s_is_integer) := ⟨rfl, rfl, rfl, by decide +kernel, rfl, by decide +kernel, by decide +kernel⟩
abbrev s_has_row_form : Stmt := topS 60
theorem sc_has_row_form : FnScope ["row", "number"] ["row"] (defScope s_has_row_form) := ⟨rfl, rfl, rfl, by decide +kernel, rfl, by decide +kernel, by decide +kernel⟩
abbrev s_things_of : Stmt := topS 61
theorem sc_things_of : FnScope ["world", "word"] ["world", "word"] (defScope s_things_of) := ⟨rfl, rfl, rfl, by decide +kernel, rfl, by decide +kernel, by decide +kernel⟩
abbrev s_check_row : Stmt := topS 59
theorem sc_check_row : FnScope ["world", "row", "word", "number", "minutes", "minute"] ["world", "row"] (defScope s_check_row) := ⟨rfl, rfl, rfl, by decide +kernel, rfl, by decide +kernel, by decide +kernel⟩
structure TxtR (K : PySem.W.Frag) (w : World) (mg : Str → Option Value) (aM : Addr) : Prop where
  g_MINUTES : mg "MINUTES" = some (.ref aM)
  kd : ∃ es n, KDict K w aM es n
  m_room : ∃ t, PySem.W.nsIn K aM "room" = some (some (.int 0 t))
  m_station : ∃ t, PySem.W.nsIn K aM "station" = some (some (.int 1 t))
  m_satellite : ∃ t, PySem.W.nsIn K aM "satellite" = some (some (.int 1 t))
  m_store : ∃ t, PySem.W.nsIn K aM "store" = some (some (.int 1 t))
  m_energy : ∃ t, PySem.W.nsIn K aM "energy" = some (some (.int 1 t))
  m_efrom : ∃ t, PySem.W.nsIn K aM "energy from" = some (some (.int 2 t))
theorem cut_1 {x : V} {xs : List V} : cutV (x :: xs) (some 1) none = xs := by
  unfold cutV
  rw [show HT.sIx (x :: xs).length 0 (some 1) = min 1 (x :: xs).length from HT.sIx_nat _ _ 1, HT.sIx_none, List.length_cons, Nat.min_eq_left (by omega)]
  exact List.take_of_length_le (by rw [List.length_drop, List.length_cons]; exact Nat.le_refl _)
/-- how many minutes stand behind a word -/
def MinIs (K : PySem.W.Frag) (aM : Addr) (x : Str) : Option Nat → Prop
  | some k => ∃ t, PySem.W.nsIn K aM x = some (some (.int (k : Int) t))
  | none => PySem.W.nsIn K aM x = some none
def formB (n : Nat) : Option Nat → Bool
  | some k => decide (n = 1 + k)
  | none => false
theorem TxtR.min {K : PySem.W.Frag} {w : World} {mg : Str → Option Value} {aM : Addr} (T : TxtR K w mg aM) (r : RowD) : MinIs K aM r.word (some r.mins.length) := by
  cases r with
  | room p => exact T.m_room
  | sta s m => exact T.m_station
  | sat s m => exact T.m_satellite
  | store s m => exact T.m_store
  | energy s m => exact T.m_energy
  | efrom s m0 m => exact T.m_efrom
def rowI (r : RowD) : List Int := (r.num : Int) :: r.mins.map fun (m : Nat) => (m : Int)
theorem rowV_eq (r : RowD) : rowV r = .str r.word :: (rowI r).map V.int := by
  unfold rowV rowI minV
  rw [List.map_cons, List.map_map]
  rfl
section
variable {P : Program} {w : World} {K : PySem.W.Frag} {mg : Str → Option Value} {base : Heap} {CL CS CT CR CP CW aS aR fS fT fR fP aM : Addr}
def spIsI : Sp := fun vs H Q _ => ∃ i : Int, vs = [.int i] ∧ Q (.bl true) H
theorem d_isint (B : Bt mg) (A : At K mg "is_integer" s_is_integer ["thing"]) : DefOk P w K mg base CX0 1 "is_integer" ["thing"] spIsI := by
  refine A.ok sc_is_integer (fun vs H Q E h => ?_) (fun f cdv A outer s H vs Q E hr h => ?_)
  · obtain ⟨i, rfl, _⟩ := h
    rfl
  obtain ⟨i, rfl, q⟩ := h
  refine ⟨_, pss_one (ps_ret (pe_and (pe_callB (call_isi) (by rfl) B.isinstance (by decide +kernel) (pa_cons (pv 0) (pa_cons (pe_bltn (v := .ty "int") (u := .type "int") (by rfl) B.int (by decide +kernel) rfl) pa_nil))) (pe_one (pe_not (pe_callB (call_isi) (by rfl) B.isinstance (by decide +kernel) (pa_cons (pv 0) (pa_cons (pe_bltn (v := .ty "bool") (u := .type "bool") (by rfl) B.bool (by decide +kernel) rfl) pa_nil)))))))
    , ?_⟩
  refine ⟨_, rfl, _, .ty "int", _, _, true, rfl, .ty "int", .base (.int i), kit_ty (by decide +kernel), true, rfl, iteT ?_⟩
  exact ⟨_, rfl, _, .ty "bool", _, _, false, rfl, .ty "bool", .base (.int i), kit_ty (by decide +kernel), false, rfl, q⟩
def spForm (K : PySem.W.Frag) (aM : Addr) : Sp := fun vs H Q _ => ∃ (t : Addr) (x : Str) (ns : List Int) (o : Option Nat), vs = [.ref t] ∧ SqT K H t (.str x :: ns.map V.int) ∧ ns.length ≤ 100 ∧ MinIs K aM x o ∧ ∀ H', Same H H' → Q (.bl (formB ns.length o)) H'
set_option maxHeartbeats 8000000 in
theorem d_form (B : Bt mg) (TR : TxtR K w mg aM) (D_is_integer : DefOk P w K mg base CX0 1 "is_integer" ["thing"] spIsI) (A : At K mg "has_row_form" s_has_row_form ["row"]) : DefOk P w K mg base CX0 2 "has_row_form" ["row"] (spForm K aM) := by
  obtain ⟨es, n, KD⟩ := TR.kd
  refine A.ok sc_has_row_form (fun vs H Q E h => ?_) (fun f cdv A outer s H vs Q E hr h => ?_)
  · obtain ⟨t, x, ns, o, rfl, _⟩ := h
    rfl
  obtain ⟨t, x, ns, o, rfl, ht, hl, mi, q⟩ := h
  refine ⟨_, pss_cons (ps_if (PW.pt (pw_or (pt_not (pt_val (pe_callB (call_isi) (by rfl) B.isinstance (by decide +kernel) (pa_cons (pv 0) (pa_cons (pe_bltn (v := .ty "tuple") (u := .type "tuple") (by rfl) B.tuple (by decide +kernel) rfl) pa_nil))))) (pw_or (pt_cmpR op_eq (pe_callB (call_len_seq) (by rfl) B.len (by decide +kernel) (pa_cons (pv 0) pa_nil)) pe_int (nomark _)) (pw_or1 (pt_not (pt_val (pe_callB (call_isi) (by rfl) B.isinstance (by decide +kernel) (pa_cons (pe_ix ix_tup (pv 0) pe_int (fun _ _ => rfl)) (pa_cons (pe_bltn (v := .ty "str") (u := .type "str") (by rfl) B.str (by decide +kernel) rfl) pa_nil)))))))))
      (pss_one (ps_ret pe_bl))
      (pss_nil))
  (pss_cons (ps_if (pt_not (pt_val (pe_callB (cr_all rfl) (by rfl) B.all (by decide +kernel) (pa_cons (pe_lc (own := [("number", 1)])  rfl sc_has_row_form.nd (pi_tup (pe_slice sl_tup (pv 0) (po_some pe_int) po_none)) (blkOk_by (own := [("number", 1)]) (N := ["row", "number"]) (sc := defScope s_has_row_form) (by decide +kernel)) (fun _ _ _ _ _ => pg_name (i := 1) sc_has_row_form.nd rfl (Or.inl rfl)) (fun _ _ _ _ _ => pts_nil) (fun _ _ _ _ _ => (pe_f D_is_integer (hr.mono (by omega)) pass0 (pa_cons (pv 1) pa_nil)))) pa_nil))))
      (pss_one (ps_ret pe_bl))
      (pss_nil))
  (pss_one (ps_ret (pe_and (pe_cmpR (op_in_kd KD) (pe_ix ix_tup (pv 0) pe_int (fun _ _ => rfl)) (pe_ga TR.g_MINUTES) (by rfl)) (pe_one (pe_cmpR op_eq (pe_callB (call_len_seq) (by rfl) B.len (by decide +kernel) (pa_cons (pv 0) pa_nil)) (pe_op op_add pe_int (pe_ix ix_kdict (pe_ga TR.g_MINUTES) (pe_ix ix_tup (pv 0) pe_int (fun _ _ => rfl)) (fun _ _ => rfl))) (nomark _)))))))
    , ?_⟩
  refine ⟨_, rfl, _, .ty "tuple", _, _, true, rfl, .ty "tuple", tyx_tup ht, kit_ty (by decide +kernel), true, rfl, ?_⟩
  refine iteF' rfl ⟨_, rfl, t, _, rfl, .inr ht, rfl, _, rfl, iteF' (decide_eq_false fun h => by have := V.int.inj h; rw [List.length_cons] at this; omega) ?_⟩
  refine ⟨_, rfl, t, _, 0, _, rfl, rfl, ht, atI_nat (j := 0) rfl, _, .ty "str", _, _, true, rfl, .ty "str", .base (.str x), kit_ty (by decide +kernel), true, rfl, iteF' rfl ?_⟩
  refine ⟨_, rfl, 1, rfl, t, _, rfl, ht, ?_, fun u hu => ?_⟩
  · rw [show HT.sIx (V.str x :: ns.map V.int).length 0 (some 1) = min 1 (V.str x :: ns.map V.int).length from HT.sIx_nat _ _ 1, List.length_cons]
    intro h
    have := h.1
    omega
  have su := same_new hu (.tup (cutV (V.str x :: ns.map V.int) (some 1) none))
  have hcu : SqT K (upd H u (.tup (cutV (V.str x :: ns.map V.int) (some 1) none))) u (ns.map V.int) := by
    have := SqT.of (K := K) (H := upd H u (.tup (cutV (V.str x :: ns.map V.int) (some 1) none))) upd_same
    rw [cut_1 (x := V.str x) (xs := ns.map V.int)] at this ⊢
    exact this
  generalize upd H u (.tup (cutV (V.str x :: ns.map V.int) (some 1) none)) = H1 at su hcu
  refine ⟨u, rfl, ⟨_, hcu⟩, fun D hD => lc_tup (K := K) (a := u) (xs := ns.map V.int) (fun i H' => Same H1 H' ∧ H' D = some (.lst ((List.replicate i true).map V.bl))) ⟨same_new hD _, upd_same⟩ (fun i H' _ h => Same.tup h.1 hcu) (fun i y H2 hy hI => ?_) (fun H2 hI => ?_)⟩
  · obtain ⟨hs, hDD⟩ := hI
    rw [List.getElem?_map] at hy
    cases hn : ns[i]? with
    | none => rw [hn] at hy; cases hy
    | some m =>
      rw [hn] at hy
      have ey : V.int m = y := Option.some.inj hy
      subst ey
      have hi := (List.getElem?_eq_some_iff.mp hn).1
      refine ⟨rfl, _, rfl, m, rfl, _, hDD, ?_, same_at hD hs _, ?_⟩
      · rw [List.length_map, List.length_replicate]
        exact small1000 (by omega)
      · rw [upd_same, List.replicate_succ', List.map_append]
        rfl
  obtain ⟨s1, hDD⟩ := hI
  have allT : ∀ n : Nat, (!(List.replicate n true).all id) = false := fun n => by simp
  refine ⟨D, _, rfl, SqL.of hDD, _, rfl, iteF' (allT _) ?_⟩
  have sA := su.trans s1
  have ht1 := Same.tup sA ht
  cases o with
  | none => exact ⟨_, rfl, t, _, 0, _, rfl, rfl, ht1, atI_nat (j := 0) rfl, x, none, rfl, rfl, mi, _, rfl, iteF' rfl (q _ sA)⟩
  | some k =>
    obtain ⟨tk, mi⟩ := mi
    refine ⟨_, rfl, t, _, 0, _, rfl, rfl, ht1, atI_nat (j := 0) rfl, x, _, rfl, rfl, mi, _, rfl, iteT' rfl ?_⟩
    refine ⟨_, rfl, t, _, rfl, .inr ht1, _, rfl, t, _, 0, _, rfl, rfl, ht1, atI_nat (j := 0) rfl, aM, x, .int (k : Int), rfl, rfl, ⟨es, n, _, KD.at_, KD.lit, mi, ⟨tk, rfl⟩⟩, _, _, rfl, rfl, rfl, ?_⟩
    have e := q _ sA
    rw [show decide (V.int (((V.str x :: ns.map V.int).length : Nat) : Int) = V.int (2 + (k : Int))) = formB ns.length (some k) from by
      show _ = decide (ns.length = 1 + k)
      rw [List.length_cons, List.length_map]
      by_cases c : ns.length = 1 + k
      · rw [decide_eq_true c, decide_eq_true (by rw [c]; congr 1; omega)]
      · rw [decide_eq_false c, decide_eq_false fun h => c (by have := V.int.inj h; omega)]]
    exact e
def manyW (W : WorldD) (x : Str) : Nat := if x = ("room" : Str) then W.pass.length else if x = ("station" : Str) then W.stas.length else W.sats.length
def spThingsOf (K : PySem.W.Frag) (CS CT CR CP CW : Addr) : Sp := fun vs H Q _ => ∃ (ac : Addr) (W : WorldD) (x : Str), vs = [.ref ac, .str x] ∧ WorldAt K CS CT CR CP CW H ac W ∧ Q (.int (manyW W x : Nat)) H
theorem d_things_of (T : TxtW K mg CL CS CT CR CP CW aS aR fS fT fR fP) (A : At K mg "things_of" s_things_of ["world", "word"]) : DefOk P w K mg base CX0 1 "things_of" ["world", "word"] (spThingsOf K CS CT CR CP CW) := by
  have B := T.L.B
  refine A.ok sc_things_of (fun vs H Q E h => ?_) (fun f cdv A outer s H vs Q E hr h => ?_)
  · obtain ⟨ac, W, x, rfl, _⟩ := h
    rfl
  obtain ⟨ac, W, x, rfl, hW, q⟩ := h
  obtain ⟨dx, t0, t1, t2, t3, x0, x1, x2, x3, gw, j0, q0, j1, q1, j2, q2, j3, q3⟩ := hW.ex
  have l0 := paired_len q0
  have l1 := paired_len q1
  have l3 := paired_len q3
  refine ⟨_, pss_cons (ps_if (pt_cmpR op_eq (pv 1) pe_str (nomark _))
      (pss_one (ps_ret (pe_callB (call_len_seq) (by rfl) B.len (by decide +kernel) (pa_cons (pe_fld (pv 0) rfl) pa_nil))))
      (pss_nil))
  (pss_cons (ps_if (pt_cmpR op_eq (pv 1) pe_str (nomark _))
      (pss_one (ps_ret (pe_callB (call_len_seq) (by rfl) B.len (by decide +kernel) (pa_cons (pe_fld (pv 0) rfl) pa_nil))))
      (pss_nil))
  (pss_one (ps_ret (pe_callB (call_len_seq) (by rfl) B.len (by decide +kernel) (pa_cons (pe_fld (pv 0) rfl) pa_nil)))))
    , ?_⟩
  unfold manyW at q
  refine ⟨_, rfl, rfl, _, rfl, ite2 (fun k => ?_) (fun k => ?_)⟩
  · rw [if_pos (V.str.inj (of_decide_eq_true k)), ← l3] at q
    exact ⟨_, rfl, ac, CW, dx, _, _, rfl, gw, T.c_World.cl, T.n_World_passes, lk_World_passes, t3, x3, rfl, .inr j3, q⟩
  · rw [if_neg (fun h => k (decide_eq_true (by rw [h])))] at q
    refine ⟨_, rfl, rfl, _, rfl, ite2 (fun k => ?_) (fun k => ?_)⟩
    · rw [if_pos (V.str.inj (of_decide_eq_true k)), ← l1] at q
      exact ⟨_, rfl, ac, CW, dx, _, _, rfl, gw, T.c_World.cl, T.n_World_stations, lk_World_stations, t1, x1, rfl, .inr j1, q⟩
    · rw [if_neg (fun h => k (decide_eq_true (by rw [h]))), ← l0] at q
      exact ⟨_, rfl, ac, CW, dx, _, _, rfl, gw, T.c_World.cl, T.n_World_satellites, lk_World_satellites, t0, x0, rfl, .inr j0, q⟩
theorem many_row (W : WorldD) (r : RowD) : manyW W r.word = r.many W := by
  unfold manyW
  cases r with
  | room p => exact if_pos rfl
  | sta s m => rw [if_neg (by show ¬ (Str.ofString "station" = Str.ofString "room"); decide +kernel)]; exact if_pos rfl
  | sat s m => rw [if_neg (by show ¬ (Str.ofString "satellite" = Str.ofString "room"); decide +kernel), if_neg (by show ¬ (Str.ofString "satellite" = Str.ofString "station"); decide +kernel)]; rfl
  | store s m => rw [if_neg (by show ¬ (Str.ofString "store" = Str.ofString "room"); decide +kernel), if_neg (by show ¬ (Str.ofString "store" = Str.ofString "station"); decide +kernel)]; rfl
  | energy s m => rw [if_neg (by show ¬ (Str.ofString "energy" = Str.ofString "room"); decide +kernel), if_neg (by show ¬ (Str.ofString "energy" = Str.ofString "station"); decide +kernel)]; rfl
  | efrom s m0 m => rw [if_neg (by show ¬ (Str.ofString "energy from" = Str.ofString "room"); decide +kernel), if_neg (by show ¬ (Str.ofString "energy from" = Str.ofString "station"); decide +kernel)]; rfl
def spCheckRow (K : PySem.W.Frag) (CS CT CR CP CW : Addr) : Sp := fun vs H Q _ => ∃ (ac t : Addr) (W : WorldD) (r : RowD), vs = [.ref ac, .ref t] ∧ WorldAt K CS CT CR CP CW H ac W ∧ SqT K H t (rowV r) ∧ RowOk W r ∧ ∀ H', Same H H' → Q .non H'
set_option maxHeartbeats 8000000 in
theorem d_check_row (T : TxtW K mg CL CS CT CR CP CW aS aR fS fT fR fP) (TR : TxtR K w mg aM) (D_has_row_form : DefOk P w K mg base CX0 2 "has_row_form" ["row"] (spForm K aM)) (D_things_of : DefOk P w K mg base CX0 1 "things_of" ["world", "word"] (spThingsOf K CS CT CR CP CW)) (A : At K mg "check_row" s_check_row ["world", "row"]) :
    DefOk P w K mg base CX0 3 "check_row" ["world", "row"] (spCheckRow K CS CT CR CP CW) := by
  have B := T.L.B
  refine A.ok sc_check_row (fun vs H Q E h => ?_) (fun f cdv A outer s H vs Q E hr h => ?_)
  · obtain ⟨ac, t, W, r, rfl, _⟩ := h
    rfl
  obtain ⟨ac, t, W, r, rfl, hW, ht, rok, q⟩ := h
  obtain ⟨dx, t0, t1, t2, t3, x0, x1, x2, x3, gw, _⟩ := hW.ex
  refine ⟨_, pss_cons (ps_if (pt_not (pt_val (pe_f D_has_row_form (hr.mono (by omega)) pass0 (pa_cons (pv 1) pa_nil))))
      (pss_one (ps_never))
      (pss_nil))
  (pss_cons (ps_asg (pv 1) (pg_star (i := 2) (by rfl) (pgs_cons (pg_name (i := 2) sc_check_row.nd rfl (Or.inl rfl)) (pgs_cons (pg_name (i := 3) sc_check_row.nd rfl (Or.inl rfl)) (pgs_consS (pg_name (i := 4) sc_check_row.nd rfl (Or.inl rfl)) (pgs_nil))))))
  (pss_cons (ps_if (pt_not (pt_chain op_le op_lt pe_int (pv 3) (pe_f D_things_of (hr.mono (by omega)) pass0 (pa_cons (pv 0) (pa_cons (pv 2) pa_nil)))))
      (pss_one (ps_never))
      (pss_nil))
  (pss_cons (ps_if (pt_not (pt_val (pe_callB (cr_all rfl) (by rfl) B.all (by decide +kernel) (pa_cons (pe_lc (own := [("minute", 5)])  rfl sc_check_row.nd (pi_list (pv 4)) (blkOk_by (own := [("minute", 5)]) (N := ["world", "row", "word", "number", "minutes", "minute"]) (sc := defScope s_check_row) (by decide +kernel)) (fun _ _ _ _ _ => pg_name (i := 5) sc_check_row.nd rfl (Or.inl rfl)) (fun _ _ _ _ _ => pts_nil) (fun _ _ _ _ _ => (pe_chain op_le op_lt pe_int (pv 5) (pe_fldK (K := K) rfl (pv 0) rfl)))) pa_nil))))
      (pss_one (ps_never))
      (pss_nil))
  (pss_one (ps_if (PW.pt (pw_and (pt_cmpR op_eq (pv 2) pe_str (nomark _)) (pw_and1 (pt_cmpR op_ge (pe_ix ix_list (pv 4) pe_int (fun _ _ => rfl)) (pe_ix ix_list (pv 4) pe_int (fun _ _ => rfl)) (nomark _)))))
      (pss_one (ps_never))
      (pss_nil))))))
    , ?_⟩
  have lm : (rowI r).length = 1 + r.mins.length := by unfold rowI; rw [List.length_cons, List.length_map]; omega
  have lm2 : r.mins.length ≤ 2 := by cases r <;> simp [RowD.mins]
  refine ⟨_, rfl, t, r.word, rowI r, some r.mins.length, rfl, by rw [← rowV_eq]; exact ht, by omega, TR.min r, fun H1 s1 => ⟨_, rfl, iteF' (by show (!decide ((rowI r).length = 1 + r.mins.length)) = false; rw [decide_eq_true lm]; rfl) ?_⟩⟩
  have lv : (rowV r).length = 2 + r.mins.length := by rw [rowV_eq, List.length_cons, List.length_map]; omega
  refine ⟨_, rfl, t, _, rfl, Same.tup s1 ht, (by omega), (by omega), fun D hD => ⟨_, _, rfl, _, _, rfl, _, _, rfl, rfl, ?_⟩⟩
  have sD := s1.trans (same_new hD (.lst ((rowV r).drop 2)))
  have hDD : (upd H1 D (.lst ((rowV r).drop 2))) D = some (.lst (minV r.mins)) := upd_same
  generalize upd H1 D (.lst ((rowV r).drop 2)) = H2 at sD hDD
  have num := rok.num
  refine ⟨_, rfl, _, _, rfl, rfl, _, rfl, iteT' (decide_eq_true (by (clear T TR D_has_row_form D_things_of B hr hW ht rok q gw lm lm2 s1 lv hD sD hDD num; omega))) ⟨_, rfl, _, rfl, ac, W, r.word, rfl, hW.same sD, _, _, rfl, rfl, _, rfl, iteF' (by show (!decide ((r.num : Int) < ((manyW W r.word : Nat) : Int))) = false; rw [many_row, decide_eq_true (by (clear T TR D_has_row_form D_things_of B hr hW ht rok q gw lm lm2 s1 lv hD sD hDD; omega))]; rfl) ?_⟩⟩
  refine ⟨_, rfl, D, rfl, ⟨_, SqL.of hDD⟩, fun F hF => lc_list (K := K) (a := D) (xs := minV r.mins) (fun i H' => Same H2 H' ∧ H' F = some (.lst ((List.replicate i true).map V.bl))) ⟨same_new hF _, upd_same⟩ (fun i H' _ h => SqL.of (h.1 _ _ hDD)) (fun i y H3 hy hI => ?_) (fun H3 hI => ?_)⟩
  · obtain ⟨hs, hFF⟩ := hI
    unfold minV at hy
    rw [List.getElem?_map] at hy
    cases hn : r.mins[i]? with
    | none => rw [hn] at hy; cases hy
    | some m =>
      rw [hn] at hy
      have ey : V.int (m : Int) = y := Option.some.inj hy
      subst ey
      have hi := (List.getElem?_eq_some_iff.mp hn).1
      have hm := rok.mins m (List.mem_of_getElem? hn)
      refine ⟨rfl, _, rfl, _, _, rfl, rfl, _, rfl, iteT' (decide_eq_true (by (clear T TR D_has_row_form D_things_of B hr hW ht rok q gw lm lm2 s1 lv hD sD hDD num hF hs hFF hn hy hi hm; omega))) ⟨_, rfl, ac, CW, dx, _, _, rfl, (sD.trans hs) _ _ gw, T.c_World.cl, T.n_World_horizon, lk_World_horizon, _, _, rfl, rfl, _, hFF, ?_, same_at hF hs _, ?_⟩⟩
      · rw [List.length_map, List.length_replicate]
        exact small1000 (by (clear T TR D_has_row_form D_things_of B hr hW ht rok q gw lm s1 hD sD hDD num hF hs hFF hn hy hm; omega))
      · rw [upd_same, List.replicate_succ', List.map_append]
        show some (HO.lst (_ ++ [V.bl (decide ((m : Int) < W.horizon))])) = _
        rw [decide_eq_true hm]
        rfl
  obtain ⟨s3, hFF⟩ := hI
  have allT : ∀ n : Nat, (!(List.replicate n true).all id) = false := fun n => by simp
  refine ⟨F, _, rfl, SqL.of hFF, _, rfl, iteF' (allT _) ?_⟩
  have hDE := s3 _ _ hDD
  have e := q _ (sD.trans s3)
  cases r with
  | room p => exact ⟨_, rfl, rfl, _, rfl, iteF' (by show decide (V.str (Str.ofString "room") = V.str _) = false; decide +kernel) e⟩
  | sta s m => exact ⟨_, rfl, rfl, _, rfl, iteF' (by show decide (V.str (Str.ofString "station") = V.str _) = false; decide +kernel) e⟩
  | sat s m => exact ⟨_, rfl, rfl, _, rfl, iteF' (by show decide (V.str (Str.ofString "satellite") = V.str _) = false; decide +kernel) e⟩
  | store s m => exact ⟨_, rfl, rfl, _, rfl, iteF' (by show decide (V.str (Str.ofString "store") = V.str _) = false; decide +kernel) e⟩
  | energy s m => exact ⟨_, rfl, rfl, _, rfl, iteF' (by show decide (V.str (Str.ofString "energy") = V.str _) = false; decide +kernel) e⟩
  | efrom s m0 m =>
    have asc : m0 < m := rok.asc
    exact ⟨_, rfl, rfl, _, rfl, iteT' (by show decide (V.str (Str.ofString "energy from") = V.str _) = true; decide +kernel) ⟨_, rfl, D, _, 0, _, rfl, rfl, SqL.of hDE, rfl, _, rfl, D, _, 1, _, rfl, rfl, SqL.of hDE, rfl, _, _, rfl, rfl, _, rfl, iteF' (decide_eq_false (by (clear T TR D_has_row_form D_things_of B hr hW q gw s1 hD sD hF s3 allT e ht rok lm lm2 lv hDD num hFF hDE; omega))) e⟩⟩
end
end DP
namespace DP
open PySem PySem.Spec PyProof.Rows L2
def iRngV (te : TE) : TI := fun σ H R => te σ H fun x H1 => ∃ p lo hi, x = .ref p ∧ H1 p = some (.rng lo hi) ∧ (-(2 ^ 62) ≤ lo ∧ lo < 2 ^ 62 ∧ -(2 ^ 62) ≤ hi ∧ hi < 2 ^ 62) ∧ R (Itr lo (hi - lo).toNat) H1
theorem pi_rngV {X : Cx} {tg e : Expr} {te : TE} (he : PE X e te) : PI X tg e (iRngV te) := by
  refine ⟨fun pins s σ H R I h => ?_⟩
  refine thn (he.run pins s σ H _ I h) fun v s1 ⟨x, H1, I1, r1, p, lo, hi, ex, hp, ⟨h1, h2, h3, h4⟩, q⟩ => ?_
  subst ex
  cases r1
  obtain ⟨t, u, w', g⟩ := (show ObjOk X.prog X.w H1 s1.heap p (.rng lo hi) from I1.hok p _ hp)
  refine wpAny_pyIter_range g (small_one h1 h2 h3 h4) ?_
  refine ⟨s1.heap.objs.size, [s1.heap.objs.size], _, _, H1, rfl, I1.kept (t' := s1.toks) fun b o e => Heap.get?_push_of_some _ e, turn_range _ lo (hi - lo).toNat, ?_, fun b hb => ?_, q⟩
  · have e2 : (((hi - lo).toNat : Nat) : Int) - ((0 : Nat) : Int) = Builtin.Range.rangeSize lo hi 1 := by rw [rangeSize_one]; split <;> omega
    show IsRangeIter _ _ (lo + ((0 : Nat) : Int) * 1) ((((hi - lo).toNat : Nat) : Int) - ((0 : Nat) : Int)) 1
    rw [e2, show lo + ((0 : Nat) : Int) * 1 = lo by omega]
    exact Heap.get?_push_size _ rfl
  · have e : b = s1.heap.objs.size := by simpa using hb
    rw [e]
    exact I1.fpOk (Nat.le_refl _) (I1.hok.fresh (Nat.le_refl _))
end DP
namespace DP
open PySem PySem.Spec PyProof.Rows L2
abbrev s_is_option : Stmt := topS 40
theorem sc_is_option : FnScope ["world", "number", "pair", "recording", "start", "p", "chance", "first", "end"] ["world", "number", "pair"] (defScope s_is_option) := ⟨rfl, rfl, rfl, by decide +kernel, rfl, by decide +kernel, by decide +kernel⟩
def isOpt (z : RecD) (s : Int) (c : PasD) : Bool := decide (z.earliest ≤ s) && (decide (s ≤ z.latest) && okP z s c)
section
variable {P : Program} {w : World} {K : PySem.W.Frag} {mg : Str → Option Value} {base : Heap} {CL CS CT CR CP CW aS aR fS fT fR fP : Addr}
def spIsOption (K : PySem.W.Frag) (CS CT CR CP CW : Addr) : Sp := fun vs H Q _ => ∃ (ac t : Addr) (W : WorldD) (i k : Nat) (z : RecD) (c : PasD) (s : Int), vs = [.ref ac, .int (i : Int), .ref t] ∧ WorldAt K CS CT CR CP CW H ac W ∧ W.recs[i]? = some z ∧ W.pass[k]? = some c ∧ SqT K H t [.int s, .int (k : Int)] ∧
  Q (.bl (isOpt z s c)) H
set_option maxHeartbeats 4000000 in
theorem d_is_option (T : TxtW K mg CL CS CT CR CP CW aS aR fS fT fR fP) (A : At K mg "is_option" s_is_option ["world", "number", "pair"]) : DefOk P w K mg base CX0 1 "is_option" ["world", "number", "pair"] (spIsOption K CS CT CR CP CW) := by
  have B := T.L.B
  refine A.ok sc_is_option (fun vs H Q E h => ?_) (fun f cdv A outer s H vs Q E hr h => ?_)
  · obtain ⟨ac, t, W, i, k, z, c, s, rfl, _⟩ := h
    rfl
  obtain ⟨ac, t, W, i, k, z, c, s0, rfl, hW, hz, hc, ht, q⟩ := h
  obtain ⟨dx, t0, t1, t2, t3, x0, x1, x2, x3, gw, _, _, _, _, p2, q2, p3, q3⟩ := hW.ex
  have l2 := paired_len q2
  have l3 := paired_len q3
  have hi : i < W.recs.length := (List.getElem?_eq_some_iff.mp hz).1
  have hk : k < W.pass.length := (List.getElem?_eq_some_iff.mp hc).1
  obtain ⟨x, hx⟩ : ∃ x, x2[i]? = some x := ⟨_, List.getElem?_eq_getElem (by omega)⟩
  obtain ⟨z', hz', ob, od, rfl, o1⟩ := paired_at q2 hx
  rw [hz] at hz'
  cases hz'
  obtain ⟨y, hy⟩ : ∃ x, x3[k]? = some x := ⟨_, List.getElem?_eq_getElem (by (clear T B hr hW hz hc ht q gw p2 q2 p3 q3 l2 hi hx o1; omega))⟩
  obtain ⟨c', hc', pb, pd, ts, rfl, c1, c2⟩ := paired_at q3 hy
  rw [hc] at hc'
  cases hc'
  refine ⟨_, pss_cons (ps_set (i := 3) sc_is_option.nd rfl (Or.inl rfl) (pe_ix ix_tup (pe_fld (pv 0) rfl) (pv 1) (fun _ _ => rfl)))
  (pss_cons (ps_asg (pv 2) (pg_tup (by rfl) (pgs_cons (pg_name (i := 4) sc_is_option.nd rfl (Or.inl rfl)) (pgs_cons (pg_name (i := 5) sc_is_option.nd rfl (Or.inl rfl)) (pgs_nil)))))
  (pss_cons (ps_set (i := 6) sc_is_option.nd rfl (Or.inl rfl) (pe_ix ix_tup (pe_fld (pv 0) rfl) (pv 5) (fun _ _ => rfl)))
  (pss_cons (ps_if (PW.pt (pw_or (pt_cmpR op_ne (pe_fld (pv 6) rfl) (pe_fld (pv 3) rfl) (nomark _)) (pw_or1 (pt_not (pt_chain op_le op_le (pe_fld (pv 3) rfl) (pv 4) (pe_fld (pv 3) rfl))))))
      (pss_one (ps_ret pe_bl))
      (pss_nil))
  (pss_cons (ps_asg (pe_fld (pv 6) rfl) (pg_tup (by rfl) (pgs_cons (pg_name (i := 7) sc_is_option.nd rfl (Or.inl rfl)) (pgs_cons (pg_name (i := 8) sc_is_option.nd rfl (Or.inl rfl)) (pgs_nil)))))
  (pss_one (ps_ret (pe_and (pe_cmpR op_le (pe_op op_add (pv 4) (pe_fld (pv 3) rfl)) (pv 7) (nomark _)) (pe_one (pe_cmpR op_le (pv 8) (pe_fld (pv 3) rfl) (nomark _))))))))))
    , ?_⟩
  refine ⟨_, rfl, ac, CW, dx, _, _, rfl, gw, T.c_World.cl, T.n_World_recordings, lk_World_recordings, _, rfl, t2, x2, (i : Int), _, rfl, rfl, p2, atI_nat hx, ?_⟩
  refine ⟨_, rfl, t, _, rfl, ht, rfl, _, _, rfl, _, _, rfl, rfl, ?_⟩
  refine ⟨_, rfl, ac, CW, dx, _, _, rfl, gw, T.c_World.cl, T.n_World_passes, lk_World_passes, _, rfl, t3, x3, (k : Int), _, rfl, rfl, p3, atI_nat hy, ?_⟩
  have no : isOpt z s0 c = false → Q (.bl false) H := fun e => by rw [e] at q; exact q
  refine ⟨_, rfl, pb, CP, pd, _, _, rfl, c1, T.c_Pass.cl, T.n_Pass_satellite, lk_Pass_satellite, _, rfl, ob, CR, od, _, _, rfl, o1, T.c_Recording.cl, T.n_Recording_satellite, lk_Recording_satellite, rfl, _, rfl, ite2 (fun e1 => iteT ?_) (fun e1 => ?_)⟩
  · refine no ?_
    have e2 : ¬ (c.sat : Int) = (z.sat : Int) := fun h => by rw [h, decide_eq_true rfl] at e1; cases e1
    unfold isOpt okP
    rw [decide_eq_false e2, Bool.false_and, Bool.and_false, Bool.and_false]
  have e2 : (c.sat : Int) = (z.sat : Int) := by
    by_cases h : (c.sat : Int) = (z.sat : Int)
    · exact h
    · exact absurd (by rw [decide_eq_false (fun y : V.int (c.sat : Int) = V.int (z.sat : Int) => h (V.int.inj y))]; rfl) e1
  have ed : decide ((c.sat : Int) = (z.sat : Int)) = true := decide_eq_true e2
  refine ⟨_, rfl, ob, CR, od, _, _, rfl, o1, T.c_Recording.cl, T.n_Recording_earliest, lk_Recording_earliest, _, rfl, _, _, rfl, rfl, _, rfl, ite2 (fun e3 => ?_) (fun e3 => ?_)⟩
  · refine ⟨_, rfl, ob, CR, od, _, _, rfl, o1, T.c_Recording.cl, T.n_Recording_latest, lk_Recording_latest, _, _, rfl, rfl, _, rfl, ?_⟩
    have e3' : decide (z.earliest ≤ s0) = true := e3
    by_cases e4 : s0 ≤ z.latest
    · refine iteF' (by rw [decide_eq_true e4]; rfl) ?_
      refine ⟨_, rfl, pb, CP, pd, _, _, rfl, c1, T.c_Pass.cl, T.n_Pass_span, lk_Pass_span, ts, _, rfl, c2, rfl, _, _, rfl, _, _, rfl, rfl, ?_⟩
      refine ⟨_, rfl, _, rfl, ob, CR, od, _, _, rfl, o1, T.c_Recording.cl, T.n_Recording_length, lk_Recording_length, _, _, rfl, rfl, _, rfl, _, _, rfl, rfl, _, rfl, ite2 (fun e5 => ?_) (fun e5 => no ?_)⟩
      · have e5' : decide (s0 + z.length ≤ c.first) = true := e5
        refine ⟨_, rfl, _, rfl, ob, CR, od, _, _, rfl, o1, T.c_Recording.cl, T.n_Recording_deadline, lk_Recording_deadline, _, _, rfl, rfl, ?_⟩
        unfold isOpt okP at q
        rw [e3', decide_eq_true e4, ed, e5', Bool.true_and, Bool.true_and, Bool.true_and, Bool.true_and] at q
        exact q
      · unfold isOpt okP
        rw [show decide (s0 + z.length ≤ c.first) = false from Bool.eq_false_iff.mpr e5, Bool.false_and, Bool.and_false, Bool.and_false, Bool.and_false]
    · refine iteT' (by rw [decide_eq_false e4]; rfl) (no ?_)
      unfold isOpt
      rw [decide_eq_false e4, Bool.false_and, Bool.and_false]
  · refine ⟨_, rfl, iteT' rfl (no ?_)⟩
    unfold isOpt
    rw [show decide (z.earliest ≤ s0) = false from Bool.eq_false_iff.mpr e3, Bool.false_and]
end
end DP
namespace DP
open PySem PySem.Spec PyProof.Rows L2
abbrev s_options : Stmt := topS 39
theorem sc_options : FnScope ["world", "number", "recording", "starts", "pairs", "start", "p", "pair"] ["world", "number"] (defScope s_options) := ⟨rfl, rfl, rfl, by decide +kernel, rfl, by decide +kernel, by decide +kernel⟩
def allS (s : Int) (j : Nat) : List (Int × Int) := (List.range j).map fun (k : Nat) => (s, (k : Int))
def allR (z : RecD) (m i : Nat) : List (Int × Int) := (List.range i).flatMap fun (t : Nat) => allS (z.earliest + (t : Int)) m
def optQ (W : WorldD) (z : RecD) (q : Int × Int) : Bool := match W.pass[q.2.toNat]? with
  | some c => isOpt z q.1 c
  | none => false
theorem allS_succ (s : Int) (j : Nat) : allS s (j + 1) = allS s j ++ [(s, (j : Int))] := by
  unfold allS
  rw [List.range_succ, List.map_append]
  rfl
theorem allR_succ (z : RecD) (m i : Nat) : allR z m (i + 1) = allR z m i ++ allS (z.earliest + (i : Int)) m := by
  unfold allR
  rw [List.range_succ, List.flatMap_append, List.flatMap_cons, List.flatMap_nil, List.append_nil]
theorem allS_len (s : Int) (j : Nat) : (allS s j).length = j := by
  unfold allS
  rw [List.length_map, List.length_range]
theorem allR_len (z : RecD) (m : Nat) : ∀ i, (allR z m i).length = i * m
  | 0 => by rw [Nat.zero_mul]; rfl
  | i + 1 => by rw [allR_succ, List.length_append, allR_len z m i, allS_len, Nat.succ_mul]
theorem allS_mem {s : Int} {j : Nat} {q : Int × Int} (h : q ∈ allS s j) : ∃ k : Nat, k < j ∧ q = (s, (k : Int)) := by
  unfold allS at h
  obtain ⟨k, hk, e⟩ := List.mem_map.mp h
  exact ⟨k, List.mem_range.mp hk, e.symm⟩
theorem allR_mem {z : RecD} {m i : Nat} {q : Int × Int} (h : q ∈ allR z m i) : ∃ k : Nat, k < m ∧ q.2 = (k : Int) := by
  unfold allR at h
  obtain ⟨t, _, h⟩ := List.mem_flatMap.mp h
  obtain ⟨k, hk, e⟩ := allS_mem h
  exact ⟨k, hk, by rw [e]⟩
theorem allS_opt {W : WorldD} {z : RecD} {s : Int} (h1 : z.earliest ≤ s) (h2 : s ≤ z.latest) : ∀ j, j ≤ W.pass.length → (allS s j).filter (optQ W z) = optS W.pass z s j
  | 0, _ => rfl
  | j + 1, h => by
    have hc : W.pass[j]? = some W.pass[j] := List.getElem?_eq_getElem (by (clear h1 h2; omega))
    have e : optQ W z (s, (j : Int)) = okP z s W.pass[j] := by
      unfold optQ isOpt
      dsimp only
      rw [Int.toNat_natCast, hc]
      dsimp only
      rw [decide_eq_true h1, decide_eq_true h2, Bool.true_and, Bool.true_and]
    rw [allS_succ, List.filter_append, allS_opt h1 h2 j (by (clear h1 h2 hc e; omega)), optS_succ, List.filter_cons, List.filter_nil, optAt_some hc, e]
theorem allR_opt {W : WorldD} {z : RecD} : ∀ i, i ≤ (z.latest + 1 - z.earliest).toNat → (allR z W.pass.length i).filter (optQ W z) = optR W.pass z i
  | 0, _ => rfl
  | i + 1, h => by
    rw [allR_succ, List.filter_append, allR_opt i (by omega), optR_succ, allS_opt (by (clear h; omega)) (by omega) _ (Nat.le_refl _)]
/-- a range walked, whatever its body -/
theorem rg_loop {lo : Int} {n : Nat} {C : (Hp → Prop) → V → Hp → Prop} {H1 : Hp} {Qd : Hp → Prop} (Pv : Nat → Hp → Prop) (h0 : Pv 0 H1) (hs : ∀ i H, i < n → Pv i H → C (Pv (i + 1)) (.int (lo + i)) H) (hd : ∀ H, Pv n H → Qd H) :
    ∃ W : Nat → Nat → Hp → Prop, (∃ m, W 0 m H1) ∧ ∀ i m H, W i m H → ((Itr lo n).stop i H ∧ Qd H) ∨ ((Itr lo n).go i H ∧ ∃ Nx : Hp → Prop, (∀ H', Nx H' → ∃ m', m' < m ∧ W (i + 1) m' H') ∧ ∀ x H', (Itr lo n).yld i H x H' → C Nx x H') := by
  refine ⟨fun i m H => m = n - i ∧ i ≤ n ∧ Pv i H, ⟨n, by simp, Nat.zero_le _, h0⟩, ?_⟩
  rintro i m H ⟨rfl, hi, p⟩
  by_cases hlt : i < n
  · refine .inr ⟨hlt, Pv (i + 1), fun H' p' => ⟨n - (i + 1), by omega, rfl, hlt, p'⟩, fun x H' y => ?_⟩
    obtain ⟨e, y⟩ := y
    subst e y
    exact hs i _ hlt p
  · have e : i = n := by omega
    subst e
    exact .inl ⟨Nat.le_refl _, hd H p⟩
section
variable {P : Program} {w : World} {K : PySem.W.Frag} {mg : Str → Option Value} {base : Heap} {CL CS CT CR CP CW aS aR fS fT fR fP : Addr}
def spOptions (K : PySem.W.Frag) (CS CT CR CP CW : Addr) : Sp := fun vs H Q _ => ∃ (ac : Addr) (W : WorldD) (i : Nat) (z : RecD), vs = [.ref ac, .int (i : Int)] ∧ WorldOk W ∧ WorldAt K CS CT CR CP CW H ac W ∧ W.recs[i]? = some z ∧
  ∀ t xs H', Same H H' → SqT K H' t xs → Spans K H' xs (optsW W z) → Q (.ref t) H'
set_option maxHeartbeats 8000000 in
theorem d_options (T : TxtW K mg CL CS CT CR CP CW aS aR fS fT fR fP) (D_is_option : DefOk P w K mg base CX0 1 "is_option" ["world", "number", "pair"] (spIsOption K CS CT CR CP CW)) (A : At K mg "options" s_options ["world", "number"]) : DefOk P w K mg base CX0 2 "options" ["world", "number"] (spOptions K CS CT CR CP CW) := by
  have B := T.L.B
  refine A.ok sc_options (fun vs H Q E h => ?_) (fun f cdv A outer s H vs Q E hr h => ?_)
  · obtain ⟨ac, W, i, z, rfl, _⟩ := h
    rfl
  obtain ⟨ac, W, i, z, rfl, wok, hW, hz, q⟩ := h
  obtain ⟨dx, t0, t1, t2, t3, x0, x1, x2, x3, gw, _, _, _, _, p2, q2, p3, q3⟩ := hW.ex
  have l2 := paired_len q2
  have l3 := paired_len q3
  have hi : i < W.recs.length := (List.getElem?_eq_some_iff.mp hz).1
  obtain ⟨x, hx⟩ : ∃ x, x2[i]? = some x := ⟨_, List.getElem?_eq_getElem (by omega)⟩
  obtain ⟨z', hz', ob, od, rfl, o1⟩ := paired_at q2 hx
  rw [hz] at hz'
  have ez := Option.some.inj hz'
  subst ez
  have ok := wok.recs z (List.mem_of_getElem? hz)
  have nP := wok.nPass
  have k1 := ok.earliest
  have k2 := ok.latest
  have k3 := wok.horizon
  have hn21 : (z.latest + 1 - z.earliest).toNat ≤ 21 := by (clear T D_is_option B hr wok hW hz q gw p2 q2 p3 q3 l2 l3 hi hx hz' o1 ok nP k1 k3; omega)
  refine ⟨_, pss_cons (ps_set (i := 2) sc_options.nd rfl (Or.inl rfl) (pe_ix ix_tup (pe_fld (pv 0) rfl) (pv 1) (fun _ _ => rfl)))
  (pss_cons (ps_set (i := 3) sc_options.nd rfl (Or.inl rfl) (pe_callTy (cr_range2) (by rfl) B.range (by decide +kernel) (pa_cons (pe_fld (pv 2) rfl) (pa_cons (pe_op op_add (pe_fld (pv 2) rfl) pe_int) pa_nil))))
  (pss_cons (ps_setLc2 (own := [("start", 5), ("p", 6)]) (vs1 := [6]) (i := 4) rfl sc_options.nd rfl rfl (sw_true rfl rfl rfl (by decide +kernel)) (pi_rngV (pv 3)) (blkOk_by (own := [("start", 5), ("p", 6)]) (N := ["world", "number", "recording", "starts", "pairs", "start", "p", "pair"]) (sc := defScope s_options) (by decide +kernel)) (by decide +kernel) (fun _ _ _ _ _ => pg_name (i := 5) sc_options.nd rfl (Or.inl rfl)) (fun _ _ _ _ _ => pts_nil) (fun _ _ _ _ _ => pi_range1 (by rfl) B.range (pa_cons (pe_callB ((call_len_seqK (K := K) rfl)) (by rfl) B.len (by decide +kernel) (pa_cons (pe_fldK (K := K) rfl (pv 0) rfl) pa_nil)) pa_nil)) (fun _ _ _ _ _ => pg_name (i := 6) sc_options.nd rfl (Or.inl rfl)) (fun _ _ _ _ _ => pts_nil) (fun _ _ _ _ _ => (pe_tup (pa_cons (pv 5) (pa_cons (pv 6) pa_nil)))))
  (pss_one (ps_ret (pe_callTy (call_tuple_of) (by rfl) B.tuple (by decide +kernel) (pa_cons (pe_lc (own := [("pair", 7)])  rfl sc_options.nd (pi_list (pv 4)) (blkOk_by (own := [("pair", 7)]) (N := ["world", "number", "recording", "starts", "pairs", "start", "p", "pair"]) (sc := defScope s_options) (by decide +kernel)) (fun _ _ _ _ _ => pg_name (i := 7) sc_options.nd rfl (Or.inl rfl)) (fun _ _ _ _ _ => pts_one (pt_val (pe_f D_is_option (hr.mono (by (clear T D_is_option B hr wok hW hz q gw p2 q2 p3 q3 l2 l3 hi hx hz' o1 ok nP k1 k2 k3 hn21; omega))) pass0 (pa_cons (pv 0) (pa_cons (pv 1) (pa_cons (pv 7) pa_nil)))))) (fun _ _ _ _ _ => (pv 7))) pa_nil))))))
    , ?_⟩
  refine ⟨_, rfl, ac, CW, dx, _, _, rfl, gw, T.c_World.cl, T.n_World_recordings, lk_World_recordings, _, rfl, t2, x2, (i : Int), _, rfl, rfl, p2, atI_nat hx, ?_⟩
  refine ⟨_, rfl, ob, CR, od, _, _, rfl, o1, T.c_Recording.cl, T.n_Recording_earliest, lk_Recording_earliest, _, rfl, ob, CR, od, _, _, rfl, o1, T.c_Recording.cl, T.n_Recording_latest, lk_Recording_latest, _, _, rfl, rfl, z.earliest, z.latest + 1, rfl, fun r hr1 => ?_⟩
  have s1 := same_new hr1 (.rng z.earliest (z.latest + 1))
  have hr2 : (upd H r (.rng z.earliest (z.latest + 1))) r = some (.rng z.earliest (z.latest + 1)) := upd_same
  generalize upd H r (.rng z.earliest (z.latest + 1)) = H1 at s1 hr2
  refine ⟨_, rfl, r, z.earliest, z.latest + 1, rfl, hr2, ⟨by (clear T D_is_option B hr wok hW hz q gw p2 q2 p3 q3 l2 l3 hi hx hz' o1 ok nP k2 k3 hn21 hr1 s1 hr2; omega), by (clear T D_is_option B hr wok hW hz q gw p2 q2 p3 q3 l2 l3 hi hx hz' o1 ok nP k2 hn21 hr1 s1 hr2; omega), by (clear T D_is_option B hr wok hW hz q gw p2 q2 p3 q3 l2 l3 hi hx hz' o1 ok nP k3 hn21 hr1 s1 hr2; omega), by (clear T D_is_option B hr wok hW hz q gw p2 q2 p3 q3 l2 l3 hi hx hz' o1 ok nP k1 hn21 hr1 s1 hr2; omega)⟩, fun D hD => ?_⟩
  have nD := s1.free hD
  have al := allR_len z W.pass.length
  refine rg_loop (lo := z.earliest) (n := (z.latest + 1 - z.earliest).toNat) (fun i H' => ∃ xs, Same H H' ∧ H' D = some (.lst xs) ∧ Spans K H' xs (allR z W.pass.length i)) ⟨[], s1.trans (same_new hD _), upd_same, (show Spans K _ [] [] from .nil)⟩ (fun i1 H2 hi1 hI => ?_) (fun H2 hI => ?_)
  · obtain ⟨xs, hs, hDD, hsp⟩ := hI
    refine ⟨rfl, ?_⟩
    refine ⟨_, rfl, ac, CW, dx, _, _, rfl, hs _ _ gw, T.c_World.cl, T.n_World_passes, lk_World_passes, t3, x3, rfl, .inr (Same.tup hs p3), _, rfl, by (clear T D_is_option B hr wok hW hz q gw p2 q2 p3 q3 l2 hi hx hz' o1 ok k1 k2 k3 hn21 hr1 s1 hr2 hD nD al hi1 hs hDD hsp; omega), by (clear T D_is_option B hr wok hW hz q gw p2 q2 p3 q3 l2 hi hx hz' o1 ok k1 k2 k3 hn21 hr1 s1 hr2 hD nD al hi1 hs hDD hsp; omega), ?_⟩
    refine rg_loop (lo := 0) (n := (x3.length : Int).toNat) (fun j H' => ∃ xs, Same H H' ∧ H' D = some (.lst xs) ∧ Spans K H' xs (allR z W.pass.length i1 ++ allS (z.earliest + (i1 : Int)) j)) ⟨xs, hs, hDD, by rw [show allS (z.earliest + (i1 : Int)) 0 = [] from rfl, List.append_nil]; exact hsp⟩ (fun j H3 hj hI => ?_) (fun H3 hI => ?_)
    · obtain ⟨xs, hs, hDD, hsp⟩ := hI
      have hll := paired_len hsp
      rw [List.length_append, allS_len, al] at hll
      have hm := Nat.mul_le_mul (show i1 ≤ 21 by (clear T D_is_option B hr wok hW hz q gw p2 q2 p3 q3 l2 l3 hi hx hz' o1 ok nP k1 k2 k3 hr1 s1 hr2 hD nD al hj hs hDD hsp hll; omega)) nP
      refine ⟨rfl, _, rfl, _, rfl, sz2_, fun t ht => ?_⟩
      have sB := same_new ht (.tup [.int (z.earliest + (i1 : Int)), .int (0 + (j : Int))])
      refine ⟨xs, sB _ _ hDD, small1000 (by (clear T D_is_option B hr wok hW hz q gw p2 q2 p3 q3 l2 hi hx hz' o1 ok k1 k2 k3 hn21 hr1 s1 hr2 hD nD al hi1 hs hDD hsp ht sB; omega)), xs ++ [.ref t], same_at nD (hs.trans sB) _, upd_same, ?_⟩
      rw [allS_succ, ← List.append_assoc]
      exact Spans.upd (paired_snoc (hsp.same sB) ⟨t, rfl, SqT.of (by rw [upd_same, Int.zero_add])⟩) (sB _ _ hDD)
    · obtain ⟨xs, hs, hDD, hsp⟩ := hI
      rw [show (x3.length : Int).toNat = W.pass.length by (clear T D_is_option B hr wok hW hz q gw p2 q2 p3 q3 l2 hi hx hz' o1 ok k1 k2 k3 hn21 hr1 s1 hr2 hD nD al hi1 hs hDD hsp; omega), ← allR_succ] at hsp
      exact ⟨xs, hs, hDD, hsp⟩
  obtain ⟨xs, hs, hDD, hsp⟩ := hI
  have hll := paired_len hsp
  rw [al] at hll
  have hm := Nat.mul_le_mul hn21 nP
  have hN := allR_opt (W := W) (z := z) _ (Nat.le_refl _)
  generalize hA : allR z W.pass.length (z.latest + 1 - z.earliest).toNat = A at hsp hN
  refine ⟨_, rfl, D, rfl, ⟨_, SqL.of hDD⟩, fun E hE => lc_it (walk_list (K := K) (a := D) (xs := xs)) (fun j H' => ∃ ys, Same H2 H' ∧ H' E = some (.lst ys) ∧ Spans K H' ys ((A.take j).filter (optQ W z))) ⟨[], same_new hE _, upd_same, (show Spans K _ [] [] from .nil)⟩ (fun j H' _ hI => by obtain ⟨ys, s, _⟩ := hI; exact SqL.of (s _ _ hDD)) (fun j x H3 H4 hj hI hy => ?_) (fun H3 hI => ?_)⟩
  · obtain ⟨ys, s3, hEE, hsq⟩ := hI
    obtain ⟨rfl, hx3⟩ := hy
    obtain ⟨qq, hqq, t, rfl, htt⟩ := paired_at hsp hx3
    have hmem : qq ∈ allR z W.pass.length (z.latest + 1 - z.earliest).toNat := by rw [hA]; exact List.mem_of_getElem? hqq
    obtain ⟨k, hk, ek⟩ := allR_mem hmem
    obtain ⟨c, hc⟩ : ∃ c, W.pass[k]? = some c := ⟨_, List.getElem?_eq_getElem hk⟩
    have eo : optQ W z qq = isOpt z qq.1 c := by
      unfold optQ
      rw [ek, Int.toNat_natCast, hc]
    have tk : (A.take (j + 1)).filter (optQ W z) = (A.take j).filter (optQ W z) ++ if optQ W z qq = true then [qq] else [] := by
      rw [List.take_add_one, hqq, Option.toList_some, List.filter_append, List.filter_cons, List.filter_nil]
    have lys := paired_len hsq
    have lf : ((A.take j).filter (optQ W z)).length ≤ j := Nat.le_trans (List.length_filter_le _ _) (by rw [List.length_take]; (clear T D_is_option B hr wok hW hz q gw p2 q2 p3 q3 l2 l3 hi hx hz' o1 ok nP k1 k2 k3 hn21 hr1 s1 hr2 hD nD al hs hDD hll hm hA hsp hN hE hj s3 hEE hsq hqq htt hx3 hmem hk ek hc eo tk lys; omega))
    refine ⟨rfl, _, rfl, _, rfl, _, rfl, ac, t, W, i, k, z, c, qq.1, rfl, hW.same (hs.trans s3), hz, hc, by rw [← ek]; exact Same.tup s3 htt, _, rfl, ite2 (fun k4 => ?_) (fun k4 => ?_)⟩
    · refine ⟨_, rfl, ys, hEE, small1000 (by (clear T D_is_option B hr wok hW hz q gw p2 q2 p3 q3 l2 l3 hi hx hz' o1 ok nP k1 k2 k3 hn21 hr1 s1 hr2 hD nD al hs hDD hA hsp hN hE s3 hEE hsq hqq htt hx3 hmem hk ek hc eo tk k4; omega)), ys ++ [.ref t], same_at hE s3 _, upd_same, ?_⟩
      rw [tk, eo, if_pos k4]
      exact Spans.upd (paired_snoc hsq ⟨t, rfl, Same.tup s3 htt⟩) hEE
    · refine ⟨ys, s3, hEE, ?_⟩
      rw [tk, eo, if_neg k4, List.append_nil]
      exact hsq
  obtain ⟨ys, s3, hEE, hsq⟩ := hI
  have lA := paired_len hsp
  rw [lA, List.take_length, hN] at hsq
  refine ⟨E, ys, rfl, .inl ⟨SqL.of hEE, fun t ht => ?_⟩⟩
  exact q t ys _ ((hs.trans s3).trans (same_new ht _)) (SqT.of upd_same) (hsq.same (same_new ht _))
end
end DP
namespace DP
open PySem PySem.Spec PyProof.Rows L2
theorem WorldAt.bare {K : PySem.W.Frag} {CS CT CR CP CW C : Addr} {H H' : Hp} {a x dx0 : Addr} {W : WorldD} (h : WorldAt K CS CT CR CP CW H a W) (hx : H x = some (.ins C dx0 [])) (z : SameX x H H') : WorldAt K CS CT CR CP CW H' a W := by
  obtain ⟨dx, t0, t1, t2, t3, x0, x1, x2, x3, g, a0, b0, a1, b1, a2, b2, a3, b3⟩ := h.ex
  refine ⟨dx, t0, t1, t2, t3, x0, x1, x2, x3, z _ _ (ne_bare hx g (by show 6 ≠ 0; decide)) g, z.sqT hx a0, Paired.mapP b0 fun _ _ q => ?_, z.sqT hx a1, Paired.mapP b1 fun _ _ q => ?_, z.sqT hx a2, Paired.mapP b2 fun _ _ q => ?_, z.sqT hx a3, Paired.mapP b3 fun _ _ q => ?_⟩
  · obtain ⟨b, dx, t, ls, h1, h2, h3, h4⟩ := q
    exact ⟨b, dx, t, ls, h1, z _ _ (ne_bare hx h2 (by show 8 ≠ 0; decide)) h2, z.sqT hx h3, z.spans hx h4⟩
  · obtain ⟨b, dx, h1, h2⟩ := q
    exact ⟨b, dx, h1, z _ _ (ne_bare hx h2 (by show 3 ≠ 0; decide)) h2⟩
  · obtain ⟨b, dx, h1, h2⟩ := q
    exact ⟨b, dx, h1, z _ _ (ne_bare hx h2 (by show 10 ≠ 0; decide)) h2⟩
  · obtain ⟨b, dx, t, h1, h2, h3⟩ := q
    exact ⟨b, dx, t, h1, z _ _ (ne_bare hx h2 (by show 7 ≠ 0; decide)) h2, z.sqT hx h3⟩
theorem dp_bare {K : PySem.W.Frag} {C : Addr} {H H' : Hp} {x dx0 : Addr} {v : V} {d : PyData} (n : noL d) (h : Dp K H v d) (hx : H x = some (.ins C dx0 [])) (z : SameX x H H') : Dp K H' v d := dpT_map (fun _ _ q => z.sqT hx q) n h
end DP
namespace DP
open PySem PySem.Spec PyProof.Rows L2
mutual
theorem nk_is {h : Heap} : ∀ (k : NestedKey) (u : Value) (as : List Addr), Reads h u k.data as → NestedIs h k u
  | .none, _, _, r => by
    rw [NestedKey.data] at r
    cases r
    exact .none
  | .num i, _, _, r => by
    rw [NestedKey.data] at r
    cases r
    exact .int i _
  | .text x, _, _, r => by
    rw [NestedKey.data] at r
    cases r
    exact .text x _
  | .tup ks, _, _, r => by
    rw [NestedKey.data] at r
    cases r with
    | tuple ho hc hd hr => exact .tup ho hc hd (nk_all ks _ _ hr)
theorem nk_all {h : Heap} : ∀ (ks : List NestedKey) (us : List Value) (as : List Addr), ReadsAll h us (NestedKey.datas ks) as → NestedAll h ks us
  | [], _, _, r => by
    rw [NestedKey.datas] at r
    cases r
    exact .nil
  | k :: ks, _, _, r => by
    rw [NestedKey.datas] at r
    cases r with
    | cons r1 r2 => exact .cons (nk_is k _ _ r1) (nk_all ks _ _ r2)
end
mutual
theorem noL_nk : ∀ k : NestedKey, noL k.data
  | .none => by rw [NestedKey.data]; unfold noL; trivial
  | .num i => by rw [NestedKey.data]; unfold noL; trivial
  | .text x => by rw [NestedKey.data]; unfold noL; trivial
  | .tup ks => by rw [NestedKey.data]; unfold noL; exact noLs_nk ks
theorem noLs_nk : ∀ ks : List NestedKey, noLs (NestedKey.datas ks)
  | [] => by rw [NestedKey.datas]; unfold noLs; trivial
  | k :: ks => by rw [NestedKey.datas]; unfold noLs; exact ⟨noL_nk k, noLs_nk ks⟩
end
abbrev NkL := List (NestedKey × Addr × V)
def NkRel (p : NestedKey × Addr × V) (q : NestedKey × Addr × Value) : Prop := p.1 = q.1 ∧ p.2.1 = q.2.1 ∧ RelV p.2.2 q.2.2
def nkPhi (P : Program) (w : World) (d : Addr) (xs : NkL) (h : Heap) : Prop := (d == sysModules) = false ∧ ∃ zs : List (NestedKey × Addr × Value), Paired NkRel xs zs ∧ ∃ o es ep, h.get? d = some o ∧ o.ExactDict ∧ o.data = .dict es ep ∧ es.toList = zs.map (entryOfKey (nestedKind P w))
def nkO (P : Program) (w : World) (d : Addr) (xs : NkL) : HO := .ext (nkPhi P w d xs)
theorem nkPhi_stays {P : Program} {w : World} {d : Addr} {xs : NkL} : ∀ h1 h2 : Heap, nkPhi P w d xs h1 → (∀ o, h1.get? d = some o → h2.get? d = some o) → nkPhi P w d xs h2 := fun _ _ ⟨hd, zs, r, o, es, ep, g, c⟩ k => ⟨hd, zs, r, o, es, ep, k o g, c⟩
theorem nk_ok {P : Program} {w : World} {H : Hp} {h : Heap} {d : Addr} {xs : NkL} (p : nkPhi P w d xs h) : ObjOk P w H h d (nkO P w d xs) := by
  obtain ⟨hd, zs, r, o, es, ep, g, c⟩ := p
  exact ⟨⟨hd, zs, r, o, es, ep, g, c⟩, ⟨o, g⟩, nkPhi_stays⟩
structure NkAt (P : Program) (w : World) (K : PySem.W.Frag) (H : Hp) (d : Addr) (xs : NkL) : Prop where
  at_ : H d = some (nkO P w d xs)
  nod : (xs.map (·.1)).Nodup
  keys : ∀ x ∈ xs, Dp K H (.ref x.2.1) x.1.data ∧ x.1.depth ≤ 8
def nkGet (xs : NkL) (k : NestedKey) : Option V := (xs.find? fun x => decide (x.1 = k)).map (·.2.2)
theorem nk_keys {xs : NkL} {zs : List (NestedKey × Addr × Value)} (r : Paired NkRel xs zs) : zs.map (·.1) = xs.map (·.1) := by
  induction r with
  | nil => rfl
  | cons a _ ih => rw [List.map_cons, List.map_cons, ih, a.1]
theorem nk_mem {xs : NkL} {zs : List (NestedKey × Addr × Value)} (r : Paired NkRel xs zs) : ∀ z ∈ zs, ∃ x ∈ xs, NkRel x z := by
  induction r with
  | nil => exact fun z hz => absurd hz List.not_mem_nil
  | cons a _ ih =>
    intro z hz
    rcases List.mem_cons.mp hz with rfl | hz
    · exact ⟨_, List.mem_cons_self, a⟩
    · obtain ⟨x, hx, q⟩ := ih z hz
      exact ⟨x, List.mem_cons_of_mem _ hx, q⟩
theorem nk_rel {xs : NkL} {zs : List (NestedKey × Addr × Value)} (r : Paired NkRel xs zs) (k : NestedKey) : RelO (nkGet xs k) ((atKey zs k).map (·.2)) := by
  induction r with
  | nil => trivial
  | @cons p q ps qs a _ ih =>
    unfold nkGet atKey at ih ⊢
    rw [List.find?_cons, List.find?_cons]
    by_cases c : p.1 = k
    · rw [decide_eq_true c, decide_eq_true (a.1 ▸ c)]
      exact a.2.2
    · rw [decide_eq_false c, decide_eq_false (fun e => c (a.1.trans e))]
      exact ih
theorem nk_snoc {xs : NkL} {zs : List (NestedKey × Addr × Value)} (r : Paired NkRel xs zs) {p : NestedKey × Addr × V} {q : NestedKey × Addr × Value} (h : NkRel p q) : Paired NkRel (xs ++ [p]) (zs ++ [q]) := paired_snoc r h
theorem nkGet_snoc {xs : NkL} {k k' : NestedKey} {a : Addr} {v : V} (h : nkGet xs k = none) : nkGet (xs ++ [(k, a, v)]) k' = if k = k' then some v else nkGet xs k' := by
  unfold nkGet at h ⊢
  rw [List.find?_append]
  by_cases c : k = k'
  · subst c
    rw [if_pos rfl]
    cases e : xs.find? fun x => decide (x.1 = k) with
    | none => simp
    | some x => rw [e] at h; cases h
  · rw [if_neg c]
    cases e : xs.find? fun x => decide (x.1 = k') with
    | none => simp [c]
    | some x => rfl
theorem nk_new_key {xs : NkL} {k : NestedKey} (h : nkGet xs k = none) : k ∉ xs.map (·.1) := fun hm => by
  obtain ⟨x, hx, rfl⟩ := List.mem_map.mp hm
  unfold nkGet at h
  have := List.find?_eq_none.mp (Option.map_eq_none_iff.mp h) x hx
  exact this (decide_eq_true rfl)
theorem sqT_ext {K : PySem.W.Frag} {H : Hp} {t d : Addr} {xs : List V} {φ : Heap → Prop} {o : HO} (h : SqT K H t xs) (e : H d = some (.ext φ)) : SqT K (upd H d o) t xs := by
  rcases h with (h | ⟨u, h⟩) | h
  · exact .inl (.inl (by rw [upd_ne (ne_of h e (fun z => nomatch z))]; exact h))
  · exact .inl (.inr ⟨u, by rw [upd_ne (ne_of h e (fun z => nomatch z))]; exact h⟩)
  · exact .inr h
section
variable {P : Program} {w : World} {K : PySem.W.Frag} {H H' : Hp} {d a : Addr} {xs : NkL} {k : NestedKey} {v : V}
theorem NkAt.same (n : NkAt P w K H d xs) (s : Same H H') : NkAt P w K H' d xs := ⟨s _ _ n.at_, n.nod, fun x hx => ⟨dp_same s (n.keys x hx).1, (n.keys x hx).2⟩⟩
theorem NkAt.put (n : NkAt P w K H d xs) (g : nkGet xs k = none) (hk : Dp K H (.ref a) k.data) (hd : k.depth ≤ 8) : NkAt P w K (upd H d (nkO P w d (xs ++ [(k, a, v)]))) d (xs ++ [(k, a, v)]) := by
  refine ⟨upd_same, ?_, fun x hx => ?_⟩
  · rw [List.map_append, List.nodup_append]
    refine ⟨n.nod, by simp, fun x hx y hy => ?_⟩
    have : y = k := by simpa using hy
    subst this
    exact fun e => nk_new_key g (e ▸ hx)
  · rcases List.mem_append.mp hx with hx | hx
    · exact ⟨dpT_map (fun _ _ q => sqT_ext q n.at_) (noL_nk _) (n.keys x hx).1, (n.keys x hx).2⟩
    · rw [List.mem_singleton.mp hx]
      exact ⟨dpT_map (fun _ _ q => sqT_ext q n.at_) (noL_nk _) hk, hd⟩
end
section
variable {X : Cx} {pins : List (Addr × Obj)} {σ : L2.St} {H : Hp} {s : Shared} {d a : Addr} {xs : NkL} {k : NestedKey}
theorem nk_key (I : Inv X pins σ H s) (h : Dp X.K H (.ref a) k.data) (hd : k.depth ≤ 8) : (nestedKind X.prog X.w).is s.heap k a := by
  obtain ⟨as, r⟩ := Dp.reads I k.data (.ref a) (.ref a) h rfl
  exact ⟨nk_is k _ _ r, hd⟩
theorem nk_dict (I : Inv X pins σ H s) (n : NkAt X.prog X.w X.K H d xs) : (d == sysModules) = false ∧ ∃ zs, Paired NkRel xs zs ∧ s.heap.DictOfH (nestedKind X.prog X.w) d zs := by
  obtain ⟨⟨hd, zs, r, o, es, ep, g, c1, c2, c3⟩, _⟩ := (show ObjOk X.prog X.w H s.heap d (.ext (nkPhi X.prog X.w d xs)) from I.hok d _ n.at_)
  refine ⟨hd, zs, r, o, es, ep, g, c1, c2, c3, fun z hz => ?_, by rw [nk_keys r]; exact n.nod⟩
  obtain ⟨x, hx, e1, e2, _⟩ := nk_mem r z hz
  obtain ⟨q1, q2⟩ := n.keys x hx
  rw [← e1, ← e2]
  exact nk_key I q1 q2
def rNkNotIn (P : Program) (w : World) (K : PySem.W.Frag) : R2 := fun y x H Q => ∃ a d k xs, y = .ref a ∧ x = .ref d ∧ Dp K H (.ref a) k.data ∧ k.depth ≤ 8 ∧ NkAt P w K H d xs ∧ Q (.bl (!(nkGet xs k).isSome)) H
theorem op_nkNotIn (hu : X.A.units + 9 < cLine) : OpR X (compareOp .NotIn) (rNkNotIn X.prog X.w X.K) := by
  intro pins s σ H y x u v Q I ry rx h
  obtain ⟨a, d, k, xs, rfl, rfl, hk, hd, n, q⟩ := h
  cases ry
  cases rx
  obtain ⟨ds, zs, r, dd⟩ := nk_dict I n
  refine wpAny_notIn_heap (show X.A.in1.units + 8 < cLine from by show X.A.units + 1 + 8 < cLine; omega) (nk_key I hk hd) ds dd ?_
  have e := (nk_rel r k).isSome_eq
  rw [Option.isSome_map] at e
  rw [← e]
  exact ⟨.bl _, H, I.tok _, rfl, q⟩
def rNkGet (P : Program) (w : World) (K : PySem.W.Frag) : R2 := fun x y H Q => ∃ a d k xs v, y = .ref a ∧ x = .ref d ∧ Dp K H (.ref a) k.data ∧ k.depth ≤ 8 ∧ NkAt P w K H d xs ∧ nkGet xs k = some v ∧ Q v H
theorem ix_nk (hu : X.A.units + 9 < cLine) : IxR X (rNkGet X.prog X.w X.K) := by
  intro value slice pins s σ H x y u0 u Q I rx ry h hs
  obtain ⟨a, d, k, xs, v, rfl, rfl, hk, hd, n, g, q⟩ := h
  obtain rfl : u0 = Value.ref d := rx
  obtain rfl : u = Value.ref a := ry
  obtain ⟨ds, zs, r, dd⟩ := nk_dict I n
  obtain ⟨w', hw, rw'⟩ := RelO.some_of (v := v) (o := (atKey zs k).map (·.2)) (by rw [← g]; exact nk_rel r k)
  obtain ⟨p, hp, hp2⟩ := Option.map_eq_some_iff.mp hw
  refine tail_any dd.typeIs slot_dict_getitem.lookup (wpAny_getItem_heap (show X.A.in1.units + 8 < cLine from by show X.A.units + 1 + 8 < cLine; omega) (nk_key I hk hd) dd hp ?_) hs
  rw [hp2]
  exact ⟨v, H, I.tok _, rw', q⟩
def sNkPut (P : Program) (w : World) (K : PySem.W.Frag) (td ty tv : TE) : TS := fun D σ H => tv σ H fun v H1 => td σ H1 fun x H2 => ty σ H2 fun y H3 => ∃ a d k xs, y = .ref a ∧ x = .ref d ∧ Dp K H3 (.ref a) k.data ∧ k.depth ≤ 8 ∧ NkAt P w K H3 d xs ∧ nkGet xs k = none ∧ xs.length < 1000 ∧ D.nx σ (upd H3 d (nkO P w d (xs ++ [(k, a, v)])))
theorem ps_nkput {o i value : Expr} {pos pos' : Pos} {td ty tv : TE} (hu : X.A.units + 9 < cLine) (ho : PE X o td) (hi : PE X i ty) (hv : PE X value tv) (hs : swapsWith value (some (.Subscript o i pos')) pos.line X.env = pure false) :
    PS X (.Assign [.Subscript o i pos'] value pos) (sNkPut X.prog X.w X.K td ty tv) := by
  refine ⟨fun pins s σ H D I h => ?_⟩
  refine wpAny_Assign_Subscript (thn (hv.run pins s σ H _ I h) fun r s1 ⟨v, H1, I1, rv, q1⟩ => thn (ho.run pins s1 σ H1 _ I1 q1) fun u s2 ⟨x, H2, I2, rx, q2⟩ => thn (hi.run pins s2 σ H2 _ I2 q2) fun iv s3 ⟨y, H3, I3, ry, a, d, k, xs, ey, ex, hk, hd, n, g, hl, q3⟩ => ?_) hs
  subst ex ey
  obtain rfl : u = Value.ref d := rx
  obtain rfl : iv = Value.ref a := ry
  obtain ⟨ds, zs, rz, dd⟩ := nk_dict I3 n
  have hz : zs.length = xs.length := (paired_len rz).symm
  have gn : atKey zs k = none := by
    have e := (nk_rel rz k).isSome_eq
    rw [g, Option.isSome_map] at e
    cases c : atKey zs k with
    | none => rfl
    | some p => rw [c] at e; cases e
  refine wpAny_setItem_heap (hsz := by rw [hz]; exact small (by (clear hu ho hi hv hs I h I1 rv q1 I2 I3 hk hd n g q3 q2 ds rz dd gn; omega))) (show X.A.in1.units + 8 < cLine from by show X.A.units + 1 + 8 < cLine; omega) (nk_key I3 hk hd) dd fun h' dd' hs' => ?_
  rw [storedH_new gn] at dd'
  obtain ⟨ob, es, ep, h1, h2, h3, h4, _, _⟩ := dd'
  have I4 : Inv X pins σ (upd H3 d (nkO X.prog X.w d (xs ++ [(k, a, v)]))) { s3 with heap := h', toks := s3.toks + (nestedKind X.prog X.w).draws k } :=
    d_write I3 (by rw [n.at_]; exact True.intro) hs' ⟨ob, h1⟩ (nk_ok ⟨ds, _, nk_snoc rz (q := (k, a, r)) ⟨rfl, rfl, rv⟩, ob, es, ep, h1, h2, h3, h4⟩)
  exact ⟨σ, _, I4, q3⟩
theorem pe_dnewN {pos : Pos} : PE X (.Dict [] [] pos) (fun _ H Q => ∀ p, H p = none → Q (.ref p) (upd H p (nkO X.prog X.w p []))) := ⟨fun pins s σ H Q I h =>
  wpAny_Dict_empty ⟨.ref s.heap.objs.size, _, I.laid (a := s.heap.objs.size) (o := nkO X.prog X.w s.heap.objs.size []) (t' := s.toks) (fun _ _ q => Heap.get?_push_of_some _ q) (Nat.le_refl _)
    (nk_ok ⟨beq_eq_false_iff_ne.mpr (Ne.symm (Nat.ne_of_lt I.big)), [], .nil, _, #[], 0, Heap.get?_push_size _ rfl, ⟨rfl, rfl, rfl⟩, rfl, rfl⟩), rfl, h _ (I.hok.fresh (Nat.le_refl _))⟩⟩
end
end DP
namespace DP
open PySem PySem.Spec PyProof.Rows L2
/-- a list of data that grows -/
def DL {α : Type} (K : PySem.W.Frag) (f : α → PyData) (H : Hp) (D : Addr) (l : List α) : Prop := ∃ xs, H D = some (.lst xs) ∧ DpAll K H xs (l.map f)
section
variable {α : Type} {K : PySem.W.Frag} {f : α → PyData} {H H' : Hp} {D : Addr} {l : List α} {a : α} {v : V}
theorem DL.same (h : DL K f H D l) (s : Same H H') : DL K f H' D l := by
  obtain ⟨xs, h1, h2⟩ := h
  exact ⟨xs, s _ _ h1, dpAll_same s h2⟩
theorem DL.nil : DL K f (upd H D (.lst [])) D ([] : List α) := ⟨[], upd_same, .nil⟩
/-- what append asks, and what is left -/
theorem DL.push (nf : ∀ a, noL (f a)) (h : DL K f H D l) (hv : Dp K H v (f a)) (hl : l.length < 1000) : ∃ xs, H D = some (.lst xs) ∧ xs.length < sizeLine ∧ DL K f (upd H D (.lst (xs ++ [v]))) D (l ++ [a]) := by
  obtain ⟨xs, h1, h2⟩ := h
  have := dpAll_len h2
  rw [List.length_map] at this
  refine ⟨xs, h1, small1000 (by omega), xs ++ [v], upd_same, ?_⟩
  rw [List.map_append]
  exact dpAll_snoc (dpTs_up (noLs_map nf l) h1 h2) (dpT_up (nf a) h1 hv)
end
end DP
namespace DP
open PySem PySem.Spec PyProof.Rows L2
abbrev s_recording_choices : Stmt := topS 55
theorem sc_recording_choices : FnScope ["world", "r"] ["world", "r"] (defScope s_recording_choices) := ⟨rfl, rfl, rfl, by decide +kernel, rfl, by decide +kernel, by decide +kernel⟩
abbrev s_pass_choices : Stmt := topS 56
theorem sc_pass_choices : FnScope ["world", "p", "station"] ["world", "p"] (defScope s_pass_choices) := ⟨rfl, rfl, rfl, by decide +kernel, rfl, by decide +kernel, by decide +kernel⟩
abbrev s_entries_of : Stmt := topS 72
theorem sc_entries_of : FnScope ["case", "made", "taken"] ["case"] (defScope s_entries_of) := ⟨rfl, rfl, rfl, by decide +kernel, rfl, by decide +kernel, by decide +kernel⟩
abbrev s_Measure___init__ : Stmt := inClass (topS 73) 0
theorem sc_Measure___init__ : FnScope ["self", "world", "factor", "made", "taken", "weights", "fees", "r", "p", "chance", "fee"] ["self", "world", "factor"] (defScope s_Measure___init__) := ⟨rfl, rfl, rfl, by decide +kernel, rfl, by decide +kernel, by decide +kernel⟩
abbrev s_Measure_entry_worth : Stmt := inClass (topS 73) 1
theorem sc_Measure_entry_worth : FnScope ["self", "thing", "entry"] ["self", "thing", "entry"] (defScope s_Measure_entry_worth) := ⟨rfl, rfl, rfl, by decide +kernel, rfl, by decide +kernel, by decide +kernel⟩
abbrev s_Measure_part : Stmt := inClass (topS 73) 2
theorem sc_Measure_part : FnScope ["self", "row", "thing", "entry"] ["self", "row", "thing", "entry"] (defScope s_Measure_part) := ⟨rfl, rfl, rfl, by decide +kernel, rfl, by decide +kernel, by decide +kernel⟩
inductive EntX where
  | non : EntX
  | opn : EntX
  | at_ (s p : Int) : EntX
  | ant (a : Int) : EntX
def entX : EntX → PyData
  | .non => .none
  | .opn => .str "open"
  | .at_ s p => .tuple [.int s, .int p]
  | .ant a => .int a
theorem noL_entX (e : EntX) : noL (entX e) := by cases e <;> simp [entX, noL, noLs]
def mX : EntM → EntX
  | .non => .non
  | .opn => .opn
  | .at_ s p => .at_ s p
def tX : EntT → EntX
  | .non => .non
  | .opn => .opn
  | .ant a => .ant a
theorem entX_m (e : EntM) : entX (mX e) = entM e := by cases e <;> rfl
theorem entX_t (e : EntT) : entX (tX e) = entT e := by cases e <;> rfl
def antOf (W : WorldD) (z : PasD) : Int := match W.stas[z.sta]? with
  | some s => s.antennas
  | none => 0
def choR (W : WorldD) (z : RecD) : List EntX := .non :: (optsW W z).map fun q => EntX.at_ q.1 q.2
def choP (W : WorldD) (z : PasD) : List EntX := .non :: (List.range (antOf W z).toNat).map fun (k : Nat) => EntX.ant (k : Int)
def choPy (l : List EntX) : PyData := .tuple (l.map entX)
def choW (W : WorldD) : List (List EntX) := W.recs.map (choR W) ++ W.pass.map (choP W)
def gainsW (W : WorldD) : List Int := W.recs.map (recW W) ++ W.pass.map fun z => -z.fee
theorem noL_cho (l : List EntX) : noL (choPy l) := by
  unfold choPy noL
  exact noLs_map noL_entX l
def entsX (c : CaseD) : List EntX := c.made.map mX ++ c.taken.map tX
structure TxtM (K : PySem.W.Frag) (mg : Str → Option Value) (CM : Addr) : Prop where
  c : ClsAt K mg "Measure" CM
  n_world : NoAttr K CM "world"
  n_many_made : NoAttr K CM "many_made"
  n_choices : NoAttr K CM "choices"
  n_gains : NoAttr K CM "gains"
def measF (ac : Addr) (n : Int) (tc tg : Addr) : List (Str × V) := [("world", .ref ac), ("many_made", .int n), ("choices", .ref tc), ("gains", .ref tg)]
theorem lk_Me_world {ac : Addr} {n : Int} {tc tg : Addr} : List.lookup ("world" : Str) (measF ac n tc tg) = some (.ref ac : V) := by unfold measF; repeat (first | exact lk_hit | rw [lk_miss (by decide +kernel)])
theorem lk_Me_many {ac : Addr} {n : Int} {tc tg : Addr} : List.lookup ("many_made" : Str) (measF ac n tc tg) = some (.int n : V) := by unfold measF; repeat (first | exact lk_hit | rw [lk_miss (by decide +kernel)])
theorem lk_Me_choices {ac : Addr} {n : Int} {tc tg : Addr} : List.lookup ("choices" : Str) (measF ac n tc tg) = some (.ref tc : V) := by unfold measF; repeat (first | exact lk_hit | rw [lk_miss (by decide +kernel)])
theorem lk_Me_gains {ac : Addr} {n : Int} {tc tg : Addr} : List.lookup ("gains" : Str) (measF ac n tc tg) = some (.ref tg : V) := by unfold measF; repeat (first | exact lk_hit | rw [lk_miss (by decide +kernel)])
structure MeasAt (K : PySem.W.Frag) (CS CT CR CP CW CM : Addr) (H : Hp) (a : Addr) (W : WorldD) : Prop where
  ex : ∃ dm ac tc tg xs, H a = some (.ins CM dm (measF ac (W.recs.length : Int) tc tg)) ∧ WorldAt K CS CT CR CP CW H ac W ∧ H tc = some (.lst xs) ∧ DpAll K H xs ((choW W).map choPy) ∧ H tg = some (.lst ((gainsW W).map V.int))
theorem MeasAt.same {K : PySem.W.Frag} {CS CT CR CP CW CM : Addr} {H H' : Hp} {a : Addr} {W : WorldD} (h : MeasAt K CS CT CR CP CW CM H a W) (s : Same H H') : MeasAt K CS CT CR CP CW CM H' a W := by
  obtain ⟨dm, ac, tc, tg, xs, h1, h2, h3, h4, h5⟩ := h.ex
  exact ⟨dm, ac, tc, tg, xs, s _ _ h1, h2.same s, s _ _ h3, dpAll_same s h4, s _ _ h5⟩
theorem spans_dpX {K : PySem.W.Frag} {H : Hp} {xs : List V} {qs : List (Int × Int)} (h : Spans K H xs qs) : DpAll K H xs ((qs.map fun q => EntX.at_ q.1 q.2).map entX) := by
  induction h with
  | nil => exact .nil
  | cons a _ ih => exact .cons (dp_at a) ih
theorem rgv_dp {K : PySem.W.Frag} {H : Hp} (n : Int) : DpAll K H (rgV 0 n) (((List.range n.toNat).map fun (k : Nat) => EntX.ant (k : Int)).map entX) := by
  unfold rgV
  rw [Int.sub_zero, List.map_map]
  generalize n.toNat = k
  have : ∀ l : List Nat, DpAll K H (l.map fun (i : Nat) => V.int (0 + (i : Int))) (l.map (entX ∘ fun (k : Nat) => EntX.ant (k : Int))) := fun l => by
    induction l with
    | nil => exact .nil
    | cons a r ih =>
      refine .cons ?_ ih
      show Dp K H (V.int (0 + (a : Int))) (.int (a : Int))
      rw [Int.zero_add]
      exact .int _
  exact this _
section
variable {P : Program} {w : World} {K : PySem.W.Frag} {mg : Str → Option Value} {base : Heap} {CL CS CT CR CP CW aS aR fS fT fR fP CM : Addr}
def spRC (K : PySem.W.Frag) (CS CT CR CP CW : Addr) : Sp := fun vs H Q _ => ∃ (ac : Addr) (W : WorldD) (i : Nat) (z : RecD), vs = [.ref ac, .int (i : Int)] ∧ WorldOk W ∧ WorldAt K CS CT CR CP CW H ac W ∧ W.recs[i]? = some z ∧ ∀ v H', Same H H' → Dp K H' v (choPy (choR W z)) → Q v H'
theorem d_rec_cho (B : Bt mg) (D_options : DefOk P w K mg base CX0 2 "options" ["world", "number"] (spOptions K CS CT CR CP CW)) (A : At K mg "recording_choices" s_recording_choices ["world", "r"]) : DefOk P w K mg base CX0 3 "recording_choices" ["world", "r"] (spRC K CS CT CR CP CW) := by
  refine A.ok sc_recording_choices (fun vs H Q E h => ?_) (fun f cdv A outer s H vs Q E hr h => ?_)
  · obtain ⟨ac, W, i, z, rfl, _⟩ := h
    rfl
  obtain ⟨ac, W, i, z, rfl, wok, hW, hz, q⟩ := h
  refine ⟨_, pss_one (ps_ret (pe_op op_catT (pe_tup (pa_cons pe_non pa_nil)) (pe_f D_options (hr.mono (by omega)) pass0 (pa_cons (pv 0) (pa_cons (pv 1) pa_nil)))))
    , ?_⟩
  refine ⟨(by show 1 ≤ sizeLine; decide), fun u hu => ?_⟩
  have su := same_new hu (.tup [V.non])
  have hut : SqT K (upd H u (.tup [V.non])) u [V.non] := SqT.of upd_same
  generalize upd H u (.tup [V.non]) = H1 at su hut
  refine ⟨_, rfl, _, rfl, ac, W, i, z, rfl, wok, hW.same su, hz, fun t xs H2 s2 ht hsp => ?_⟩
  have lx := paired_len hsp
  refine ⟨u, t, _, _, rfl, rfl, Same.tup s2 hut, ht, (fun h => nomatch h), ?_, fun e => ?_, fun e p hp => ?_⟩
  · have := optsW_len wok (wok.recs z (List.mem_of_getElem? hz))
    show 1 + xs.length ≤ sizeLine
    exact Nat.le_trans (by omega) (show 300 ≤ sizeLine by decide)
  · subst e
    refine q (.ref u) _ (su.trans s2) (.tup (Same.tup s2 hut) ?_)
    cases hq : optsW W z with
    | nil => unfold choR; rw [hq]; exact .cons .non .nil
    | cons a r => rw [hq] at lx; cases lx
  · have sp := same_new hp (.tup ([V.non] ++ xs))
    exact q (.ref p) _ ((su.trans s2).trans sp) (.tup (SqT.of upd_same) (.cons .non (dpAll_same sp (spans_dpX hsp))))
def spPC (K : PySem.W.Frag) (CS CT CR CP CW : Addr) : Sp := fun vs H Q _ => ∃ (ac : Addr) (W : WorldD) (i : Nat) (z : PasD), vs = [.ref ac, .int (i : Int)] ∧ WorldOk W ∧ WorldAt K CS CT CR CP CW H ac W ∧ W.pass[i]? = some z ∧ ∀ v H', Same H H' → Dp K H' v (choPy (choP W z)) → Q v H'
theorem d_pas_cho (T : TxtW K mg CL CS CT CR CP CW aS aR fS fT fR fP) (A : At K mg "pass_choices" s_pass_choices ["world", "p"]) : DefOk P w K mg base CX0 1 "pass_choices" ["world", "p"] (spPC K CS CT CR CP CW) := by
  have B := T.L.B
  refine A.ok sc_pass_choices (fun vs H Q E h => ?_) (fun f cdv A outer s H vs Q E hr h => ?_)
  · obtain ⟨ac, W, i, z, rfl, _⟩ := h
    rfl
  obtain ⟨ac, W, i, z, rfl, wok, hW, hz, q⟩ := h
  obtain ⟨dx, t0, t1, t2, t3, x0, x1, x2, x3, gw, j0, q0, j1, q1, j2, q2, j3, q3⟩ := hW.ex
  obtain ⟨pb, pd, ts, hpb, c1, c2⟩ := rw_pas q3 hz
  have zok := wok.pass z (List.mem_of_getElem? hz)
  obtain ⟨zt, hzt⟩ : ∃ zt, W.stas[z.sta]? = some zt := ⟨_, List.getElem?_eq_getElem zok.sta⟩
  obtain ⟨sb, sd, hsb, g1⟩ := rw_sta q1 hzt
  have ztok := wok.stas zt (List.mem_of_getElem? hzt)
  refine ⟨_, pss_cons (ps_set (i := 2) sc_pass_choices.nd rfl (Or.inl rfl) (pe_fld (pe_ix ix_tup (pe_fld (pv 0) rfl) (pv 1) (fun _ _ => rfl)) rfl))
  (pss_one (ps_ret (pe_op op_catT (pe_tup (pa_cons pe_non pa_nil)) (pe_tupRg rfl (by rfl) B.tuple (prg_1 (by rfl) B.range (pe_fld (pe_ix ix_tup (pe_fld (pv 0) rfl) (pv 2) (fun _ _ => rfl)) rfl))))))
    , ?_⟩
  refine ⟨_, rfl, ac, CW, dx, _, _, rfl, gw, T.c_World.cl, T.n_World_passes, lk_World_passes, _, rfl, t3, x3, (i : Int), _, rfl, rfl, j3, atI_nat hpb, pb, CP, pd, _, _, rfl, c1, T.c_Pass.cl, T.n_Pass_station, lk_Pass_station, ?_⟩
  refine ⟨(by show 1 ≤ sizeLine; decide), fun u hu => ?_⟩
  have su := same_new hu (.tup [V.non])
  have hut : SqT K (upd H u (.tup [V.non])) u [V.non] := SqT.of upd_same
  generalize upd H u (.tup [V.non]) = H1 at su hut
  refine ⟨_, rfl, ac, CW, dx, _, _, rfl, su _ _ gw, T.c_World.cl, T.n_World_stations, lk_World_stations, _, rfl, t1, x1, (z.sta : Int), _, rfl, rfl, Same.tup su j1, atI_nat hsb, sb, CT, sd, _, _, rfl, su _ _ g1, T.c_Station.cl, T.n_Station_antennas, lk_Station_antennas, _, rfl, ?_, fun v hv => ?_⟩
  · exact .of_le (by omega) (by have := ztok.antennas; omega) (by omega) (by have := ztok.antennas; omega)
  have sv := same_new hv (.tup (rgV 0 zt.antennas))
  have ea : antOf W z = zt.antennas := by unfold antOf; rw [hzt]
  refine ⟨u, v, _, _, rfl, rfl, Same.tup sv hut, SqT.of upd_same, (fun h => nomatch h), ?_, fun e => ?_, fun e p hp => ?_⟩
  · rw [rgV_length]
    have := ztok.antennas
    show 1 + (zt.antennas - 0).toNat ≤ sizeLine
    exact Nat.le_trans (show _ ≤ 100 by omega) (show 100 ≤ sizeLine by decide)
  · have e0 := congrArg List.length e
    rw [rgV_length, List.length_nil] at e0
    have := ztok.antennas
    omega
  · have sp := same_new hp (.tup ([V.non] ++ rgV 0 zt.antennas))
    refine q (.ref p) _ ((su.trans sv).trans sp) (.tup (SqT.of upd_same) (.cons .non ?_))
    rw [ea]
    exact rgv_dp _
theorem ents_map (c : CaseD) : (entsX c).map entX = c.made.map entM ++ c.taken.map entT := by
  unfold entsX
  rw [List.map_append, List.map_map, List.map_map]
  congr 1
  · exact List.map_congr_left fun e _ => entX_m e
  · exact List.map_congr_left fun e _ => entX_t e
def spEnts (K : PySem.W.Frag) : Sp := fun vs H Q _ => ∃ (v : V) (c : CaseD), vs = [v] ∧ Dp K H v (casePy c) ∧ c.made.length ≤ 10 ∧ c.taken.length ≤ 10 ∧ ∀ t xs H', Same H H' → SqT K H' t xs → DpAll K H' xs ((entsX c).map entX) → Q (.ref t) H'
theorem dpAll_app {K : PySem.W.Frag} {H : Hp} : ∀ {xs ys : List V} {ds es : List PyData}, DpAll K H xs ds → DpAll K H ys es → DpAll K H (xs ++ ys) (ds ++ es)
  | _, _, _, _, .nil, h => h
  | _, _, _, _, .cons a t, h => .cons a (dpAll_app t h)
theorem d_entries_of (B : Bt mg) (A : At K mg "entries_of" s_entries_of ["case"]) : DefOk P w K mg base CX0 1 "entries_of" ["case"] (spEnts K) := by
  refine A.ok sc_entries_of (fun vs H Q E h => ?_) (fun f cdv A outer s H vs Q E hr h => ?_)
  · obtain ⟨v, c, rfl, _⟩ := h
    rfl
  obtain ⟨v, c, rfl, hd, l10, l10', q⟩ := h
  obtain ⟨t, tm, tt, xm, xt, rfl, ht, hm, htt, hxm, hxt, lm, lt⟩ := case_two hd
  refine ⟨_, pss_cons (ps_asg (pv 0) (pg_tup (by rfl) (pgs_cons (pg_name (i := 1) sc_entries_of.nd rfl (Or.inl rfl)) (pgs_cons (pg_name (i := 2) sc_entries_of.nd rfl (Or.inl rfl)) (pgs_nil)))))
  (pss_one (ps_ret (pe_op op_catA (pv 1) (pv 2))))
    , ?_⟩
  refine ⟨_, rfl, t, _, rfl, ht, rfl, _, _, rfl, _, _, rfl, rfl, ?_⟩
  have da := dpAll_app hxm hxt
  rw [← ents_map] at da
  refine ⟨_, rfl, _, rfl, tm, tt, xm, xt, rfl, rfl, hm, htt, Nat.le_trans (show xm.length + xt.length ≤ 100 by omega) (show 100 ≤ sizeLine by decide), fun e => ?_, fun _ e => ?_, fun _ _ p hp => ?_⟩
  · subst e
    exact q _ _ _ (Same.refl _) htt da
  · subst e
    rw [List.append_nil] at da
    exact q _ _ _ (Same.refl _) hm da
  · exact q _ _ _ (same_new hp _) (SqT.of upd_same) (dpAll_same (same_new hp _) da)
def spMeas (K : PySem.W.Frag) (CS CT CR CP CW CM : Addr) : Sp := fun vs H Q _ => ∃ (x dx0 ac : Addr) (W : WorldD), vs = [.ref x, .ref ac, .int 1] ∧ H x = some (.ins CM dx0 []) ∧ WorldOk W ∧ WorldAt K CS CT CR CP CW H ac W ∧
  ∀ H', SameX x H H' → MeasAt K CS CT CR CP CW CM H' x W → Q .non H'
set_option maxHeartbeats 16000000 in
theorem dI_Measure (T : TxtW K mg CL CS CT CR CP CW aS aR fS fT fR fP) (TM : TxtM K mg CM) (D_recording_choices : DefOk P w K mg base CX0 3 "recording_choices" ["world", "r"] (spRC K CS CT CR CP CW)) (D_pass_choices : DefOk P w K mg base CX0 1 "pass_choices" ["world", "p"] (spPC K CS CT CR CP CW)) (D_recording_weight : DefOk P w K mg base CX0 2 "recording_weight" ["world", "r"] (spRecW K CS CT CR CP CW))
    (A : MAtD K CM "__init__" "Measure.__init__" s_Measure___init__ ["self", "world", "factor"] [.int 1]) : MDef P w K mg base CX0 4 CM "__init__" ["self", "world", "factor"] [.int 1] (spMeas K CS CT CR CP CW CM) := by
  have B := T.L.B
  refine A.ok sc_Measure___init__ (fun vs H Q E h => ?_) (fun f cdv A outer s H vs Q E hr h => ?_)
  · obtain ⟨x, dx0, ac, W, rfl, _⟩ := h
    rfl
  obtain ⟨x, dx0, ac, W, rfl, hx, wok, hW, q⟩ := h
  have nR := wok.nRecs
  have nP := wok.nPass
  refine ⟨_, pss_cons (ps_fld (pv 0) (pv 1) rfl)
  (pss_cons (ps_fld (pv 0) (pe_callB (call_len_seq) (by rfl) B.len (by decide +kernel) (pa_cons (pe_fld (pv 1) rfl) pa_nil)) rfl)
  (pss_cons (ps_setLc (own := [("r", 7)]) (i := 3) rfl sc_Measure___init__.nd rfl rfl (sw_true rfl rfl rfl (by decide +kernel)) (pi_range1 (by rfl) B.range (pa_cons (pe_fld (pv 0) rfl) pa_nil)) (blkOk_by (own := [("r", 7)]) (N := ["self", "world", "factor", "made", "taken", "weights", "fees", "r", "p", "chance", "fee"]) (sc := defScope s_Measure___init__) (by decide +kernel)) (fun _ _ _ _ _ => pg_name (i := 7) sc_Measure___init__.nd rfl (Or.inl rfl)) (fun _ _ _ _ _ => pts_nil) (fun _ _ _ _ _ => (pe_f D_recording_choices (hr.mono (by omega)) pass0 (pa_cons (pv 1) (pa_cons (pv 7) pa_nil)))))
  (pss_cons (ps_setLc (own := [("p", 8)]) (i := 4) rfl sc_Measure___init__.nd rfl rfl (sw_true rfl rfl rfl (by decide +kernel)) (pi_range1 (by rfl) B.range (pa_cons (pe_callB (call_len_seq) (by rfl) B.len (by decide +kernel) (pa_cons (pe_fld (pv 1) rfl) pa_nil)) pa_nil)) (blkOk_by (own := [("p", 8)]) (N := ["self", "world", "factor", "made", "taken", "weights", "fees", "r", "p", "chance", "fee"]) (sc := defScope s_Measure___init__) (by decide +kernel)) (fun _ _ _ _ _ => pg_name (i := 8) sc_Measure___init__.nd rfl (Or.inl rfl)) (fun _ _ _ _ _ => pts_nil) (fun _ _ _ _ _ => (pe_f D_pass_choices (hr.mono (by omega)) pass0 (pa_cons (pv 1) (pa_cons (pv 8) pa_nil)))))
  (pss_cons (ps_fld (pv 0) (pe_op op_cat (pv 3) (pv 4)) rfl)
  (pss_cons (ps_setLc (own := [("r", 7)]) (i := 5) rfl sc_Measure___init__.nd rfl rfl (sw_true rfl rfl rfl (by decide +kernel)) (pi_range1 (by rfl) B.range (pa_cons (pe_fld (pv 0) rfl) pa_nil)) (blkOk_by (own := [("r", 7)]) (N := ["self", "world", "factor", "made", "taken", "weights", "fees", "r", "p", "chance", "fee"]) (sc := defScope s_Measure___init__) (by decide +kernel)) (fun _ _ _ _ _ => pg_name (i := 7) sc_Measure___init__.nd rfl (Or.inl rfl)) (fun _ _ _ _ _ => pts_nil) (fun _ _ _ _ _ => (pe_op op_mul (pv 2) (pe_f D_recording_weight (hr.mono (by omega)) pass0 (pa_cons (pv 1) (pa_cons (pv 7) pa_nil))))))
  (pss_cons (ps_setLc (own := [("chance", 9)]) (i := 6) rfl sc_Measure___init__.nd rfl rfl (sw_true rfl rfl rfl (by decide +kernel)) (pi_tup (pe_fld (pv 1) rfl)) (blkOk_by (own := [("chance", 9)]) (N := ["self", "world", "factor", "made", "taken", "weights", "fees", "r", "p", "chance", "fee"]) (sc := defScope s_Measure___init__) (by decide +kernel)) (fun _ _ _ _ _ => pg_name (i := 9) sc_Measure___init__.nd rfl (Or.inl rfl)) (fun _ _ _ _ _ => pts_nil) (fun _ _ _ _ _ => (pe_op op_mul (pv 2) (pe_fldK (K := K) rfl (pv 9) rfl))))
  (pss_one (ps_fld (pv 0) (pe_op op_cat (pv 5) (pe_lc (own := [("fee", 10)])  rfl sc_Measure___init__.nd (pi_list (pv 6)) (blkOk_by (own := [("fee", 10)]) (N := ["self", "world", "factor", "made", "taken", "weights", "fees", "r", "p", "chance", "fee"]) (sc := defScope s_Measure___init__) (by decide +kernel)) (fun _ _ _ _ _ => pg_name (i := 10) sc_Measure___init__.nd rfl (Or.inl rfl)) (fun _ _ _ _ _ => pts_nil) (fun _ _ _ _ _ => (pe_un un_neg (pv 10))))) rfl))))))))
    , ?_⟩
  refine ⟨_, rfl, _, rfl, x, CM, dx0, _, rfl, hx, TM.c.cl, TM.n_world, (by show 0 < 1000; decide), ?_⟩
  rw [put_nil]
  have X1 : SameX x H (upd H x (.ins CM dx0 [("world", .ref ac)])) := SameX.upd
  have hx1 : (upd H x (.ins CM dx0 [("world", .ref ac)])) x = some (.ins CM dx0 [("world", .ref ac)]) := upd_same
  generalize upd H x (.ins CM dx0 [("world", .ref ac)]) = H1 at X1 hx1
  obtain ⟨dx, t0, t1, t2, t3, x0, x1, x2, x3, gw, j0, q0, j1, q1, j2, q2, j3, q3⟩ := (hW.bare hx X1).ex
  have l2 := paired_len q2
  have l3 := paired_len q3
  refine ⟨_, rfl, ac, CW, dx, _, _, rfl, gw, T.c_World.cl, T.n_World_recordings, lk_World_recordings, t2, x2, rfl, .inr j2, _, rfl, x, CM, dx0, _, rfl, hx1, TM.c.cl, TM.n_many_made, (by show 1 < 1000; decide), ?_⟩
  rw [put_miss (by decide +kernel), put_nil]
  have X2 : SameX x H (upd H1 x (.ins CM dx0 [("world", .ref ac), ("many_made", .int (x2.length : Int))])) := X1.at_
  have hx2 : (upd H1 x (.ins CM dx0 [("world", .ref ac), ("many_made", .int (x2.length : Int))])) x = some (.ins CM dx0 [("world", .ref ac), ("many_made", .int (x2.length : Int))]) := upd_same
  generalize upd H1 x (.ins CM dx0 [("world", .ref ac), ("many_made", .int (x2.length : Int))]) = H2 at X2 hx2
  clear gw j0 q0 j1 q1 j2 q2 j3 q3
  -- what the recordings may choose
  refine ⟨_, rfl, x, CM, dx0, _, _, rfl, hx2, TM.c.cl, TM.n_many_made, (by rw [lk_miss (by decide +kernel)]; exact lk_hit), _, rfl, (by omega), (by omega), fun D hD => lc_range (lo := 0) (n := (x2.length : Int).toNat) (fun i H' => Same H2 H' ∧ DL K choPy H' D ((W.recs.map (choR W)).take i)) ⟨same_new hD _, by rw [List.take_zero]; exact DL.nil⟩ (fun i H3 hi hI => ?_) (fun H3 hI => ?_)⟩
  · obtain ⟨hs, hd⟩ := hI
    obtain ⟨z, hz⟩ : ∃ z, W.recs[i]? = some z := ⟨_, List.getElem?_eq_getElem (by (clear T TM D_recording_choices D_pass_choices D_recording_weight B hr hx wok hW q nP X1 hx1 l3 X2 hx2 hD hs hd; omega))⟩
    refine ⟨rfl, _, rfl, _, rfl, ac, W, i, z, (by rw [Int.zero_add]; rfl), wok, hW.bare hx (X2.trans (SameX.of hs)), hz, fun v H4 s4 dv => ?_⟩
    obtain ⟨xs, g1, g2, g3⟩ := (hd.same s4).push (a := choR W z) noL_cho dv (by rw [List.length_take, List.length_map]; (clear T TM D_recording_choices D_pass_choices D_recording_weight B hr hx wok hW q nP X1 hx1 l3 X2 hx2 hD hi hs hd hz s4 dv; omega))
    refine ⟨xs, g1, g2, same_at hD (hs.trans s4) _, ?_⟩
    rw [List.take_add_one, List.getElem?_map, hz]
    exact g3
  obtain ⟨s3, hd3⟩ := hI
  rw [show (x2.length : Int).toNat = (W.recs.map (choR W)).length by rw [List.length_map]; omega, List.take_length] at hd3
  have X3 := X2.trans (SameX.of s3)
  have hx3 := s3 _ _ hx2
  -- what the passes may choose
  obtain ⟨dy, y0, y1, y2, y3, z0, z1, z2, z3, gw, j0, q0, j1, q1, j2, q2, j3, q3⟩ := (hW.bare hx X3).ex
  have l3' := paired_len q3
  refine ⟨_, rfl, ac, CW, dy, _, _, rfl, gw, T.c_World.cl, T.n_World_passes, lk_World_passes, y3, z3, rfl, .inr j3, _, rfl, (by (clear T TM D_recording_choices D_pass_choices D_recording_weight B hr hx wok hW q nR X1 hx1 l2 X2 hx2 hD s3 hd3 X3 hx3 gw j0 q0 j1 q1 j2 q2 j3 q3; omega)), (by (clear T TM D_recording_choices D_pass_choices D_recording_weight B hr hx wok hW q nR X1 hx1 l2 X2 hx2 hD s3 hd3 X3 hx3 gw j0 q0 j1 q1 j2 q2 j3 q3; omega)), fun F hF => lc_range (lo := 0) (n := (z3.length : Int).toNat) (fun i H' => Same H3 H' ∧ DL K choPy H' F ((W.pass.map (choP W)).take i)) ⟨same_new hF _, by rw [List.take_zero]; exact DL.nil⟩ (fun i H4 hi hI => ?_) (fun H4 hI => ?_)⟩
  · obtain ⟨hs, hd⟩ := hI
    obtain ⟨z, hz⟩ : ∃ z, W.pass[i]? = some z := ⟨_, List.getElem?_eq_getElem (by (clear T TM D_recording_choices D_pass_choices D_recording_weight B hr hx wok hW q nR nP X1 hx1 l2 X2 hx2 hD s3 hd3 X3 hx3 gw j0 q0 j1 q1 j2 q2 j3 q3 hF hs hd; omega))⟩
    refine ⟨rfl, _, rfl, _, rfl, ac, W, i, z, (by rw [Int.zero_add]; rfl), wok, hW.bare hx (X3.trans (SameX.of hs)), hz, fun v H5 s5 dv => ?_⟩
    obtain ⟨xs, g1, g2, g3⟩ := (hd.same s5).push (a := choP W z) noL_cho dv (by rw [List.length_take, List.length_map]; (clear T TM D_recording_choices D_pass_choices D_recording_weight B hr hx wok hW q nR X1 hx1 l2 X2 hx2 hD s3 hd3 X3 hx3 gw j0 q0 j1 q1 j2 q2 j3 q3 hF hi hs hd hz s5 dv; omega))
    refine ⟨xs, g1, g2, same_at hF (hs.trans s5) _, ?_⟩
    rw [List.take_add_one, List.getElem?_map, hz]
    exact g3
  obtain ⟨s4, hd4⟩ := hI
  rw [show (z3.length : Int).toNat = (W.pass.map (choP W)).length by rw [List.length_map]; (clear T TM D_recording_choices D_pass_choices D_recording_weight B hr hx wok hW q nR X1 hx1 l2 X2 hx2 hD s3 hd3 X3 hx3 gw j0 q0 j1 q1 j2 q2 j3 q3 hF s4 hd4; omega), List.take_length] at hd4
  have X4 := X3.trans (SameX.of s4)
  have hx4 := s4 _ _ hx3
  clear gw j0 q0 j1 q1 j2 q2 j3 q3
  obtain ⟨xd, hD4, dd⟩ := hd3.same s4
  obtain ⟨xf, hF4, df⟩ := hd4
  have ldd := dpAll_len dd
  have ldf := dpAll_len df
  rw [List.length_map, List.length_map] at ldd ldf
  refine ⟨_, rfl, _, rfl, D, F, _, _, rfl, rfl, hD4, hF4, Nat.le_trans (show xd.length + xf.length ≤ 100 by omega) (show 100 ≤ sizeLine by decide), fun tc htc => ?_⟩
  have s5 := same_new htc (.lst (xd ++ xf))
  have dc5 : DpAll K (upd H4 tc (.lst (xd ++ xf))) (xd ++ xf) ((choW W).map choPy) := by
    unfold choW
    rw [List.map_append]
    exact dpAll_same s5 (dpAll_app dd df)
  have htc5 : (upd H4 tc (.lst (xd ++ xf))) tc = some (.lst (xd ++ xf)) := upd_same
  have hx5 := s5 _ _ hx4
  have X5 := X4.trans (SameX.of s5)
  generalize upd H4 tc (.lst (xd ++ xf)) = H5 at s5 dc5 htc5 hx5 X5
  refine ⟨_, rfl, x, CM, dx0, _, rfl, hx5, TM.c.cl, TM.n_choices, (by show 2 < 1000; decide), ?_⟩
  rw [put_miss (by decide +kernel), put_miss (by decide +kernel), put_nil]
  have X6 : SameX x H (upd H5 x (.ins CM dx0 [("world", .ref ac), ("many_made", .int (x2.length : Int)), ("choices", .ref tc)])) := X5.at_
  have U6 : SameX x H5 (upd H5 x (.ins CM dx0 [("world", .ref ac), ("many_made", .int (x2.length : Int)), ("choices", .ref tc)])) := SameX.upd
  have hx6 : (upd H5 x (.ins CM dx0 [("world", .ref ac), ("many_made", .int (x2.length : Int)), ("choices", .ref tc)])) x = some (.ins CM dx0 [("world", .ref ac), ("many_made", .int (x2.length : Int)), ("choices", .ref tc)]) := upd_same
  generalize upd H5 x (.ins CM dx0 [("world", .ref ac), ("many_made", .int (x2.length : Int)), ("choices", .ref tc)]) = H6 at X6 U6 hx6
  have htc6 := U6 _ _ (ne_of htc5 hx5 (fun z => nomatch z)) htc5
  have nCho : noLs ((choW W).map choPy) := noLs_map noL_cho _
  have dc6 := dpTs_map (fun _ _ q => U6.sqT hx5 q) nCho dc5
  -- what they are worth
  refine ⟨_, rfl, x, CM, dx0, _, _, rfl, hx6, TM.c.cl, TM.n_many_made, (by rw [lk_miss (by decide +kernel)]; exact lk_hit), _, rfl, (by omega), (by omega), fun G hG => lc_range (lo := 0) (n := (x2.length : Int).toNat) (fun i H' => Same H6 H' ∧ H' G = some (.lst (((W.recs.take i).map (recW W)).map V.int))) ⟨same_new hG _, upd_same⟩ (fun i H7 hi hI => ?_) (fun H7 hI => ?_)⟩
  · obtain ⟨hs, hd⟩ := hI
    obtain ⟨z, hz⟩ : ∃ z, W.recs[i]? = some z := ⟨_, List.getElem?_eq_getElem (by (clear T TM D_recording_choices D_pass_choices D_recording_weight B hr hx wok hW q nP X1 hx1 l3 X2 hx2 hD s3 hd3 X3 hx3 l3' hF s4 X4 hx4 hD4 dd hF4 df ldf htc s5 dc5 htc5 hx5 X5 X6 U6 hx6 htc6 nCho dc6 hG hs hd; omega))⟩
    refine ⟨rfl, _, rfl, _, rfl, _, rfl, ac, W, i, z, (by rw [Int.zero_add]; rfl), wok, hW.bare hx (X6.trans (SameX.of hs)), hz, fun H8 s8 => ⟨_, _, rfl, rfl, .inl ⟨by decide, by decide⟩, ?_⟩⟩
    have r := lc_step (f := recW W) hz (by (clear T TM D_recording_choices D_pass_choices D_recording_weight B hr hx wok hW q nP X1 hx1 l3 X2 hx2 hD s3 hd3 X3 hx3 l3' hF s4 X4 hx4 hD4 dd hF4 df ldf htc s5 dc5 htc5 hx5 X5 X6 U6 hx6 htc6 nCho dc6 hG hi hs hd hz s8; omega)) hG (hs.trans s8) (s8 _ _ hd)
    rw [← Int.one_mul (recW W z)] at r
    exact r
  obtain ⟨s7, hd7⟩ := hI
  rw [show (x2.length : Int).toNat = W.recs.length by (clear T TM D_recording_choices D_pass_choices D_recording_weight B hr hx wok hW q nP X1 hx1 l3 X2 hx2 hD s3 hd3 X3 hx3 l3' hF s4 X4 hx4 hD4 dd hF4 df ldf htc s5 dc5 htc5 hx5 X5 X6 U6 hx6 htc6 nCho dc6 hG s7 hd7; omega), List.take_length] at hd7
  have X7 := X6.trans (SameX.of s7)
  obtain ⟨dy, y0, y1, y2, y3, z0, z1, z2, z3, gw, j0, q0, j1, q1, j2, q2, j3, q3⟩ := (hW.bare hx X7).ex
  have l3' := paired_len q3
  refine ⟨_, rfl, ac, CW, dy, _, _, rfl, gw, T.c_World.cl, T.n_World_passes, lk_World_passes, y3, rfl, ⟨_, j3⟩, fun U hU => lc_tup (K := K) (a := y3) (xs := z3) (fun i H' => Same H7 H' ∧ H' U = some (.lst (((W.pass.take i).map (·.fee)).map V.int))) ⟨same_new hU _, upd_same⟩ (fun i H' _ h => Same.tup h.1 j3) (fun i v H8 hv hI => ?_) (fun H8 hI => ?_)⟩
  · obtain ⟨hs, hd⟩ := hI
    obtain ⟨z, hz, pb, pd, ts, rfl, c1, c2⟩ := paired_at q3 hv
    refine ⟨rfl, _, rfl, _, rfl, pb, CP, pd, _, _, rfl, hs _ _ c1, T.c_Pass.cl, T.n_Pass_fee, lk_Pass_fee, _, _, rfl, rfl, .inl ⟨by decide, by decide⟩, ?_⟩
    have r := lc_step (f := (·.fee)) hz (by (clear T TM D_recording_choices D_pass_choices D_recording_weight B hr hx wok hW q nR X1 hx1 l2 X2 hx2 hD s3 hd3 X3 hx3 hF s4 X4 hx4 hD4 dd hF4 df ldd htc s5 dc5 htc5 hx5 X5 X6 U6 hx6 htc6 nCho dc6 hG s7 hd7 X7 gw j0 q0 j1 q1 j2 q2 j3 q3 hU hs hd hz hv c1 c2; omega)) hU hs hd
    show ∃ acc, H8 U = some (.lst acc) ∧ acc.length < sizeLine ∧ Same H7 (upd H8 U (.lst (acc ++ [V.int (1 * z.fee)]))) ∧ (upd H8 U (.lst (acc ++ [V.int (1 * z.fee)]))) U = some (.lst (((W.pass.take (i + 1)).map (·.fee)).map V.int))
    rw [Int.one_mul]
    exact r
  obtain ⟨s8, hd8⟩ := hI
  rw [l3', List.take_length] at hd8
  have hd7' := s8 _ _ hd7
  refine ⟨_, rfl, _, rfl, U, rfl, ⟨_, SqL.of hd8⟩, fun V1 hV1 => lc_list (K := K) (a := U) (xs := (W.pass.map (·.fee)).map V.int) (fun i H' => Same H8 H' ∧ H' V1 = some (.lst (((W.pass.take i).map fun z => -z.fee).map V.int))) ⟨same_new hV1 _, upd_same⟩ (fun i H' _ h => SqL.of (h.1 _ _ hd8)) (fun i v H9 hv hI => ?_) (fun H9 hI => ?_)⟩
  · obtain ⟨hs, hd⟩ := hI
    rw [List.map_map, List.getElem?_map] at hv
    cases hz : W.pass[i]? with
    | none => rw [hz] at hv; cases hv
    | some z =>
      rw [hz] at hv
      have ev : V.int z.fee = v := Option.some.inj hv
      subst ev
      exact ⟨rfl, _, rfl, _, rfl, lc_step (f := fun z : PasD => -z.fee) hz (by (clear T TM D_recording_choices D_pass_choices D_recording_weight B hr hx wok hW q nR X1 hx1 l2 X2 hx2 hD s3 hd3 X3 hx3 hF s4 X4 hx4 hD4 dd hF4 df ldd htc s5 dc5 htc5 hx5 X5 X6 U6 hx6 htc6 nCho dc6 hG s7 hd7 X7 gw j0 q0 j1 q1 j2 q2 j3 q3 hU s8 hd8 hd7' hV1 hs hd hz hv; omega)) hV1 hs hd⟩
  obtain ⟨s9, hd9⟩ := hI
  rw [List.length_map, List.length_map, List.take_length] at hd9
  have s69 := (s7.trans s8).trans s9
  refine ⟨G, V1, _, _, rfl, rfl, s9 _ _ hd7', hd9, Nat.le_trans (show _ ≤ 100 by rw [List.length_map, List.length_map, List.length_map, List.length_map]; omega) (show 100 ≤ sizeLine by decide), fun tg htg => ?_⟩
  have eg : ((W.recs.map (recW W)).map V.int ++ (W.pass.map fun z => -z.fee).map V.int) = (gainsW W).map V.int := by unfold gainsW; rw [List.map_append]
  rw [eg]
  have sA := s69.trans (same_new htg (.lst ((gainsW W).map V.int)))
  have htgA : (upd H9 tg (.lst ((gainsW W).map V.int))) tg = some (.lst ((gainsW W).map V.int)) := upd_same
  generalize upd H9 tg (.lst ((gainsW W).map V.int)) = HA at sA htgA
  have hxA := sA _ _ hx6
  have XA := X6.trans (SameX.of sA)
  refine ⟨_, rfl, x, CM, dx0, _, rfl, hxA, TM.c.cl, TM.n_gains, (by show 3 < 1000; decide), ?_⟩
  rw [put_miss (by decide +kernel), put_miss (by decide +kernel), put_miss (by decide +kernel), put_nil]
  have UZ : SameX x HA (upd HA x (.ins CM dx0 [("world", .ref ac), ("many_made", .int (x2.length : Int)), ("choices", .ref tc), ("gains", .ref tg)])) := SameX.upd
  refine q _ (XA.trans UZ) ⟨dx0, ac, tc, tg, xd ++ xf, ?_, hW.bare hx (XA.trans UZ), UZ _ _ (ne_of (sA _ _ htc6) hxA (fun z => nomatch z)) (sA _ _ htc6), dpTs_map (fun _ _ q => UZ.sqT hxA q) nCho (dpAll_same sA dc6), UZ _ _ (ne_of htgA hxA (fun z => nomatch z)) htgA⟩
  rw [upd_same, l2]
  rfl
def nonX : EntX → Bool
  | .non => true
  | _ => false
theorem non_entX {K : PySem.W.Frag} {H : Hp} {v : V} {e : EntX} (h : Dp K H v (entX e)) : decide (v = V.non) = nonX e := by
  cases e <;> (cases h; rfl)
def worX (W : WorldD) (i : Nat) : EntX → Int
  | .non => 0
  | _ => (gainsW W).getD i 0
def spEW (K : PySem.W.Frag) (CS CT CR CP CW CM : Addr) : Sp := fun vs H Q _ => ∃ (am : Addr) (W : WorldD) (i : Nat) (v : V) (e : EntX), vs = [.ref am, .int (i : Int), v] ∧ MeasAt K CS CT CR CP CW CM H am W ∧ Dp K H v (entX e) ∧ i < (gainsW W).length ∧ Q (.int (worX W i e)) H
theorem d_entry_worth (B : Bt mg) (TM : TxtM K mg CM) (A : MAt K CM "entry_worth" "Measure.entry_worth" s_Measure_entry_worth ["self", "thing", "entry"]) : MDef P w K mg base CX0 1 CM "entry_worth" ["self", "thing", "entry"] [] (spEW K CS CT CR CP CW CM) := by
  refine A.ok sc_Measure_entry_worth (fun vs H Q E h => ?_) (fun f cdv A outer s H vs Q E hr h => ?_)
  · obtain ⟨am, W, i, v, e, rfl, _⟩ := h
    rfl
  obtain ⟨am, W, i, v, e, rfl, hM, hv, hi, q⟩ := h
  obtain ⟨dm, ac, tc, tg, xs, h1, h2, h3, h4, h5⟩ := hM.ex
  refine ⟨_, pss_one (ps_ret (pe_ifExp (pt_cmpR op_isN (pv 2) pe_non (nomark _)) pe_int (pe_ix ix_list (pe_fld (pv 0) rfl) (pv 1) (fun _ _ => rfl))))
    , ?_⟩
  have hg : ((gainsW W).map V.int)[i]? = some (.int ((gainsW W).getD i 0)) := by
    rw [List.getElem?_map, List.getElem?_eq_getElem hi, List.getD_eq_getElem?_getD, List.getElem?_eq_getElem hi]
    rfl
  have kk := non_entX hv
  refine ⟨_, rfl, rfl, _, rfl, ?_⟩
  cases e with
  | non => exact iteT' kk q
  | opn => exact iteF' kk ⟨_, rfl, am, CM, dm, _, _, rfl, h1, TM.c.cl, TM.n_gains, lk_Me_gains, _, rfl, tg, _, (i : Int), _, rfl, rfl, SqL.of h5, atI_nat hg, q⟩
  | at_ a b => exact iteF' kk ⟨_, rfl, am, CM, dm, _, _, rfl, h1, TM.c.cl, TM.n_gains, lk_Me_gains, _, rfl, tg, _, (i : Int), _, rfl, rfl, SqL.of h5, atI_nat hg, q⟩
  | ant a => exact iteF' kk ⟨_, rfl, am, CM, dm, _, _, rfl, h1, TM.c.cl, TM.n_gains, lk_Me_gains, _, rfl, tg, _, (i : Int), _, rfl, rfl, SqL.of h5, atI_nat hg, q⟩
/-- a decided entry of a thing -/
def EntOk (W : WorldD) (i : Nat) : EntX → Prop
  | .non => True
  | .opn => False
  | .at_ _ p => i < W.recs.length ∧ 0 ≤ p ∧ p < (W.pass.length : Int)
  | .ant _ => W.recs.length ≤ i ∧ i < W.recs.length + W.pass.length
def partX (W : WorldD) (row : RowD) (i : Nat) : EntX → Int
  | .at_ s p => match W.recs[i]? with
    | some z => recPart W row z s p
    | none => 0
  | .ant _ => match W.pass[i - W.recs.length]? with
    | some z => pasPart W row (i - W.recs.length) z
    | none => 0
  | _ => 0
def spPart (K : PySem.W.Frag) (CS CT CR CP CW CM : Addr) : Sp := fun vs H Q _ => ∃ (am t : Addr) (W : WorldD) (row : RowD) (i : Nat) (v : V) (e : EntX), vs = [.ref am, .ref t, .int (i : Int), v] ∧ WorldOk W ∧ MeasAt K CS CT CR CP CW CM H am W ∧ SqT K H t (rowV row) ∧ RowOk W row ∧ Dp K H v (entX e) ∧ EntOk W i e ∧ ∀ H', Same H H' → Q (.int (partX W row i e)) H'
theorem d_part (T : TxtW K mg CL CS CT CR CP CW aS aR fS fT fR fP) (TM : TxtM K mg CM) (D_recording_part : DefOk P w K mg base CX0 3 "recording_part" ["world", "row", "r", "option"] (spRecPart K CS CT CR CP CW)) (D_pass_part : DefOk P w K mg base CX0 3 "pass_part" ["world", "row", "p"] (spPasPart K CS CT CR CP CW))
    (A : MAt K CM "part" "Measure.part" s_Measure_part ["self", "row", "thing", "entry"]) : MDef P w K mg base CX0 4 CM "part" ["self", "row", "thing", "entry"] [] (spPart K CS CT CR CP CW CM) := by
  have B := T.L.B
  refine A.ok sc_Measure_part (fun vs H Q E h => ?_) (fun f cdv A outer s H vs Q E hr h => ?_)
  · obtain ⟨am, t, W, row, i, v, e, rfl, _⟩ := h
    rfl
  obtain ⟨am, t, W, row, i, v, e, rfl, wok, hM, ht, rok, hv, eok, q⟩ := h
  obtain ⟨dm, ac, tc, tg, xs, h1, h2, h3, h4, h5⟩ := hM.ex
  refine ⟨_, pss_cons (ps_if (pt_cmpR op_isN (pv 3) pe_non (nomark _))
      (pss_one (ps_ret pe_int))
      (pss_nil))
  (pss_cons (ps_if (pt_cmpR op_lt (pv 2) (pe_fld (pv 0) rfl) (nomark _))
      (pss_one (ps_ret (pe_f D_recording_part (hr.mono (by omega)) pass0 (pa_cons (pe_fld (pv 0) rfl) (pa_cons (pv 1) (pa_cons (pv 2) (pa_cons (pv 3) pa_nil)))))))
      (pss_nil))
  (pss_one (ps_ret (pe_f D_pass_part (hr.mono (by omega)) pass0 (pa_cons (pe_fld (pv 0) rfl) (pa_cons (pv 1) (pa_cons (pe_op op_sub (pv 2) (pe_fld (pv 0) rfl)) pa_nil)))))))
    , ?_⟩
  have kk := non_entX hv
  refine ⟨_, rfl, rfl, _, rfl, ?_⟩
  cases e with
  | non => exact iteT' kk (q _ (Same.refl _))
  | opn => exact eok.elim
  | at_ a b =>
    obtain ⟨e1, e2, e3⟩ := eok
    obtain ⟨z, hz⟩ : ∃ z, W.recs[i]? = some z := ⟨_, List.getElem?_eq_getElem e1⟩
    have em : ∀ H', Same H H' → Q (.int (recPart W row z a b)) H' := fun H' s => by
      have := q H' s
      unfold partX at this
      rw [hz] at this
      exact this
    obtain ⟨u, us, rfl, hu, hx⟩ := dp_tup hv
    have ex := dp_ints (ns := [a, b]) hx
    subst ex
    refine iteF' kk ⟨_, rfl, _, rfl, am, CM, dm, _, _, rfl, h1, TM.c.cl, TM.n_many_made, lk_Me_many, _, _, rfl, rfl, _, rfl, iteT' (decide_eq_true (by omega)) ?_⟩
    exact ⟨_, rfl, am, CM, dm, _, _, rfl, h1, TM.c.cl, TM.n_world, lk_Me_world, _, rfl, _, rfl, _, rfl, ac, t, u, W, row, i, z, a, b, rfl, h2, ht, rok, hz, hu, e2, e3, em⟩
  | ant a =>
    obtain ⟨e1, e2⟩ := eok
    obtain ⟨z, hz⟩ : ∃ z, W.pass[i - W.recs.length]? = some z := ⟨_, List.getElem?_eq_getElem (by omega)⟩
    have em : ∀ H', Same H H' → Q (.int (pasPart W row (i - W.recs.length) z)) H' := fun H' s => by
      have := q H' s
      unfold partX at this
      rw [hz] at this
      exact this
    refine iteF' kk ⟨_, rfl, _, rfl, am, CM, dm, _, _, rfl, h1, TM.c.cl, TM.n_many_made, lk_Me_many, _, _, rfl, rfl, _, rfl, iteF' (decide_eq_false (by omega)) ?_⟩
    exact ⟨_, rfl, am, CM, dm, _, _, rfl, h1, TM.c.cl, TM.n_world, lk_Me_world, _, rfl, _, rfl, _, rfl, am, CM, dm, _, _, rfl, h1, TM.c.cl, TM.n_many_made, lk_Me_many, _, _, rfl, rfl, ac, t, W, row, i - W.recs.length, z, (by show _ = _; rw [show ((i - W.recs.length : Nat) : Int) = (i : Int) - (W.recs.length : Int) by omega]; rfl), wok, h2, ht, rok, hz, em⟩
end
end DP
namespace DP
open PySem PySem.Spec PyProof.Rows L2
abbrev s_is_tuple_of : Stmt := topS 7
theorem sc_is_tuple_of : FnScope ["thing", "many"] ["thing", "many"] (defScope s_is_tuple_of) := ⟨rfl, rfl, rfl, by decide +kernel, rfl, by decide +kernel, by decide +kernel⟩
section
variable {P : Program} {w : World} {K : PySem.W.Frag} {mg : Str → Option Value} {base : Heap}
def spIsTup (K : PySem.W.Frag) : Sp := fun vs H Q _ => ∃ (t : Addr) (xs : List V) (m : Int), vs = [.ref t, .int m] ∧ SqT K H t xs ∧ Q (.bl (decide (V.int (xs.length : Int) = V.int m))) H
theorem d_is_tuple_of (B : Bt mg) (A : At K mg "is_tuple_of" s_is_tuple_of ["thing", "many"]) : DefOk P w K mg base CX0 1 "is_tuple_of" ["thing", "many"] (spIsTup K) := by
  refine A.ok sc_is_tuple_of (fun vs H Q E h => ?_) (fun f cdv A outer s H vs Q E hr h => ?_)
  · obtain ⟨t, xs, m, rfl, _⟩ := h
    rfl
  obtain ⟨t, xs, m, rfl, ht, q⟩ := h
  refine ⟨_, pss_one (ps_ret (pe_and (pe_callB (call_isi) (by rfl) B.isinstance (by decide +kernel) (pa_cons (pv 0) (pa_cons (pe_bltn (v := .ty "tuple") (u := .type "tuple") (by rfl) B.tuple (by decide +kernel) rfl) pa_nil))) (pe_one (pe_cmpR op_eq (pe_callB (call_len_seq) (by rfl) B.len (by decide +kernel) (pa_cons (pv 0) pa_nil)) (pv 1) (nomark _)))))
    , ?_⟩
  exact ⟨_, rfl, _, .ty "tuple", _, _, true, rfl, .ty "tuple", tyx_tup ht, kit_ty (by decide +kernel), true, rfl, iteT' rfl ⟨_, rfl, t, xs, rfl, .inr ht, _, rfl, rfl, q⟩⟩
end
end DP
namespace DP
open PySem PySem.Spec PyProof.Rows L2
abbrev s_check_prices : Stmt := topS 75
theorem sc_check_prices : FnScope ["world", "divisor", "prices", "pair", "row", "price"] ["world", "divisor", "prices"] (defScope s_check_prices) := ⟨rfl, rfl, rfl, by decide +kernel, rfl, by decide +kernel, by decide +kernel⟩
abbrev s_bound : Stmt := topS 76
theorem sc_bound : FnScope ["world", "case", "divisor", "prices"] ["world", "case", "divisor", "prices"] (defScope s_bound) := ⟨rfl, rfl, rfl, by decide +kernel, rfl, by decide +kernel, by decide +kernel⟩
abbrev s_Nets___init__ : Stmt := inClass (topS 77) 0
theorem sc_Nets___init__ : FnScope ["self", "measure", "divisor", "prices", "row", "price"] ["self", "measure", "divisor", "prices"] (defScope s_Nets___init__) := ⟨rfl, rfl, rfl, by decide +kernel, rfl, by decide +kernel, by decide +kernel⟩
abbrev s_Nets_bound : Stmt := inClass (topS 77) 1
theorem sc_Nets_bound : FnScope ["self", "case", "thing", "entry"] ["self", "case"] (defScope s_Nets_bound) := ⟨rfl, rfl, rfl, by decide +kernel, rfl, by decide +kernel, by decide +kernel⟩
abbrev s_Nets_net : Stmt := inClass (topS 77) 2
theorem sc_Nets_net : FnScope ["self", "thing", "entry", "key", "choices", "choice"] ["self", "thing", "entry"] (defScope s_Nets_net) := ⟨rfl, rfl, rfl, by decide +kernel, rfl, by decide +kernel, by decide +kernel⟩
abbrev s_Nets_choice_net : Stmt := inClass (topS 77) 3
theorem sc_Nets_choice_net : FnScope ["self", "thing", "entry", "parts", "row", "price"] ["self", "thing", "entry"] (defScope s_Nets_choice_net) := ⟨rfl, rfl, rfl, by decide +kernel, rfl, by decide +kernel, by decide +kernel⟩
theorem hu9 {k : Nat} {A : Around} (hr : Room k A) : A.units + 9 < cLine := by have := hr.un; omega
abbrev Prs := List (RowD × Int)
def prPy1 (q : RowD × Int) : PyData := .tuple [rowPy q.1, .int q.2]
def prPy (l : Prs) : PyData := .tuple (l.map prPy1)
structure PrOk (W : WorldD) (l : Prs) : Prop where
  row : ∀ q ∈ l, RowOk W q.1
  pos : ∀ q ∈ l, 0 ≤ q.2 ∧ q.2 < 2 ^ 60
  len : l.length ≤ 100
theorem noL_row (r : RowD) : noL (rowPy r) := by
  unfold rowPy noL
  have h : ∀ ms : List Nat, noLs (ms.map fun (m : Nat) => PyData.int (m : Int)) := fun ms => by
    induction ms with
    | nil => unfold noLs; trivial
    | cons a r ih => rw [List.map_cons]; unfold noLs; exact ⟨by unfold noL; trivial, ih⟩
  unfold noLs
  refine ⟨by unfold noL; trivial, ?_⟩
  unfold noLs
  exact ⟨by unfold noL; trivial, h _⟩
theorem noL_pr1 (q : RowD × Int) : noL (prPy1 q) := by
  unfold prPy1 noL noLs
  refine ⟨noL_row q.1, ?_⟩
  unfold noLs noLs
  exact ⟨by unfold noL; trivial, trivial⟩
theorem noL_pr (l : Prs) : noL (prPy l) := by
  unfold prPy noL
  exact noLs_map noL_pr1 l
theorem dp_pr1 {K : PySem.W.Frag} {H : Hp} {v : V} {q : RowD × Int} (h : Dp K H v (prPy1 q)) : ∃ u t, v = .ref u ∧ SqT K H u [.ref t, .int q.2] ∧ SqT K H t (rowV q.1) := by
  obtain ⟨u, xs, rfl, hu, hx⟩ := dp_tup h
  cases hx with
  | cons a hx =>
  cases hx with
  | cons b hx =>
  cases hx
  cases b
  obtain ⟨t, rfl, ht⟩ := dp_row a
  exact ⟨u, t, rfl, hu, ht⟩
def rightsX (W : WorldD) (l : Prs) : Int := (l.map fun q => q.2 * rightW W q.1).sum
def costX (W : WorldD) (l : Prs) (i : Nat) (e : EntX) : Int := (l.map fun q => q.2 * partX W q.1 i e).sum
def cnet (W : WorldD) (d : Int) (l : Prs) (i : Nat) (e : EntX) : Int := d * worX W i e - costX W l i e
def maxL : List Int → Int
  | [] => 0
  | a :: r => r.foldl max a
theorem maxL_le : ∀ {r : List Int} {a y : Int}, y ∈ a :: r → y ≤ r.foldl max a
  | [], a, y, h => by rw [List.mem_singleton.mp h]; exact Int.le_refl _
  | b :: r, a, y, h => by
    show y ≤ r.foldl max (max a b)
    rcases List.mem_cons.mp h with rfl | h
    · exact Int.le_trans (Int.le_max_left _ _) (maxL_le (List.mem_cons_self))
    rcases List.mem_cons.mp h with rfl | h
    · exact Int.le_trans (Int.le_max_right _ _) (maxL_le (List.mem_cons_self))
    · exact maxL_le (List.mem_cons_of_mem _ h)
theorem maxL_mem : ∀ {r : List Int} {a : Int}, r.foldl max a ∈ a :: r
  | [], a => List.mem_singleton.mpr rfl
  | b :: r, a => by
    show r.foldl max (max a b) ∈ _
    rcases List.mem_cons.mp (maxL_mem (r := r) (a := max a b)) with h | h
    · rw [h]
      rcases Int.le_total a b with c | c
      · rw [Int.max_eq_right c]; exact List.mem_cons_of_mem _ List.mem_cons_self
      · rw [Int.max_eq_left c]; exact List.mem_cons_self
    · exact List.mem_cons_of_mem _ (List.mem_cons_of_mem _ h)
theorem maxL_of {ns : List Int} {m : Int} (h0 : m ∈ ns) (h1 : ∀ y, y ∈ ns → y ≤ m) : m = maxL ns := by
  cases ns with
  | nil => exact absurd h0 List.not_mem_nil
  | cons a r => exact Int.le_antisymm (maxL_le h0) (h1 _ maxL_mem)
def choX (W : WorldD) (i : Nat) : List EntX := (choW W).getD i []
def netX (W : WorldD) (d : Int) (l : Prs) (i : Nat) : EntX → Int
  | .opn => maxL ((choX W i).map (cnet W d l i))
  | e => cnet W d l i e
def boundX (W : WorldD) (d : Int) (l : Prs) (es : List EntX) : Int := rightsX W l + ((List.range es.length).map fun i => netX W d l i (es.getD i .non)).sum
structure TxtN (K : PySem.W.Frag) (mg : Str → Option Value) (CM CZ : Addr) : Prop where
  c_Measure : ClsAt K mg "Measure" CM
  c_Nets : ClsAt K mg "Nets" CZ
  n_measure : NoAttr K CZ "measure"
  n_divisor : NoAttr K CZ "divisor"
  n_prices : NoAttr K CZ "prices"
  n_rights : NoAttr K CZ "rights"
  n_known : NoAttr K CZ "known"
  n_world : NoAttr K CM "world"
  n_choices : NoAttr K CM "choices"
  g_OPEN : ∃ t, mg "OPEN" = some (.str "open" t)
def netsF (am : Addr) (d : Int) (vp : V) (r : Int) (dk : Addr) : List (Str × V) := [("measure", .ref am), ("divisor", .int d), ("prices", vp), ("rights", .int r), ("known", .ref dk)]
theorem lk_Me_part {ac : Addr} {n : Int} {tc tg : Addr} : List.lookup ("part" : Str) (measF ac n tc tg) = (none : Option V) := by unfold measF; repeat (first | rfl | rw [lk_miss (by decide +kernel)])
theorem lk_Me_entry_worth {ac : Addr} {n : Int} {tc tg : Addr} : List.lookup ("entry_worth" : Str) (measF ac n tc tg) = (none : Option V) := by unfold measF; repeat (first | rfl | rw [lk_miss (by decide +kernel)])
theorem lk_Ne_choice_net {am dk : Addr} {d r : Int} {vp : V} : List.lookup ("choice_net" : Str) (netsF am d vp r dk) = (none : Option V) := by unfold netsF; repeat (first | rfl | rw [lk_miss (by decide +kernel)])
theorem lk_Ne_net {am dk : Addr} {d r : Int} {vp : V} : List.lookup ("net" : Str) (netsF am d vp r dk) = (none : Option V) := by unfold netsF; repeat (first | rfl | rw [lk_miss (by decide +kernel)])
theorem lk_Ne_bound {am dk : Addr} {d r : Int} {vp : V} : List.lookup ("bound" : Str) (netsF am d vp r dk) = (none : Option V) := by unfold netsF; repeat (first | rfl | rw [lk_miss (by decide +kernel)])
section
variable {am dk : Addr} {d r : Int} {vp : V}
theorem lk_Ne_measure : List.lookup ("measure" : Str) (netsF am d vp r dk) = some (.ref am : V) := by unfold netsF; repeat (first | exact lk_hit | rw [lk_miss (by decide +kernel)])
theorem lk_Ne_divisor : List.lookup ("divisor" : Str) (netsF am d vp r dk) = some (.int d : V) := by unfold netsF; repeat (first | exact lk_hit | rw [lk_miss (by decide +kernel)])
theorem lk_Ne_prices : List.lookup ("prices" : Str) (netsF am d vp r dk) = some vp := by unfold netsF; repeat (first | exact lk_hit | rw [lk_miss (by decide +kernel)])
theorem lk_Ne_rights : List.lookup ("rights" : Str) (netsF am d vp r dk) = some (.int r : V) := by unfold netsF; repeat (first | exact lk_hit | rw [lk_miss (by decide +kernel)])
theorem lk_Ne_known : List.lookup ("known" : Str) (netsF am d vp r dk) = some (.ref dk : V) := by unfold netsF; repeat (first | exact lk_hit | rw [lk_miss (by decide +kernel)])
end
def eKey : EntX → NestedKey
  | .non => .none
  | .opn => .text "open"
  | .at_ s p => .tup [.num s, .num p]
  | .ant a => .num a
theorem eKey_data (e : EntX) : (eKey e).data = entX e := by
  cases e <;> simp only [eKey, entX, NestedKey.data, NestedKey.datas]
def keyX (i : Nat) (e : EntX) : NestedKey := .tup [.num (i : Int), eKey e]
theorem keyX_data (i : Nat) (e : EntX) : (keyX i e).data = .tuple [.int (i : Int), entX e] := by
  unfold keyX
  simp only [NestedKey.data, NestedKey.datas, eKey_data]
theorem keyX_depth (i : Nat) (e : EntX) : (keyX i e).depth ≤ 8 := by
  unfold keyX
  cases e <;> simp [eKey, NestedKey.depth, NestedKey.depthAll]
theorem eKey_inj {e e' : EntX} (h : eKey e = eKey e') : e = e' := by
  cases e <;> cases e' <;> simp_all [eKey]
theorem keyX_inj {i j : Nat} {e e' : EntX} (h : keyX i e = keyX j e') : i = j ∧ e = e' := by
  unfold keyX at h
  injection h with h
  injection h with h1 h2
  injection h1 with h1
  injection h2 with h2 _
  exact ⟨by omega, eKey_inj h2⟩
/-- what stands apart from a dict of that kind -/
theorem ext_ne {H : Hp} {b dk : Addr} {o : HO} {φ : Heap → Prop} (hb : H b = some o) (hd : H dk = some (.ext φ)) (n : ∀ ψ, o ≠ .ext ψ) : b ≠ dk := fun z => by
  rw [z, hd] at hb
  exact n _ (Option.some.inj hb).symm
theorem sqT_ext2 {K : PySem.W.Frag} {H H' : Hp} {t dk : Addr} {xs : List V} {φ : Heap → Prop} (s : SameX dk H H') (hd : H dk = some (.ext φ)) (h : SqT K H t xs) : SqT K H' t xs := by
  rcases h with (h | ⟨u, h⟩) | h
  · exact .inl (.inl (s _ _ (ext_ne h hd (fun _ z => nomatch z)) h))
  · exact .inl (.inr ⟨u, s _ _ (ext_ne h hd (fun _ z => nomatch z)) h⟩)
  · exact .inr h
theorem dp_ext {K : PySem.W.Frag} {H H' : Hp} {dk : Addr} {v : V} {d : PyData} {φ : Heap → Prop} (n : noL d) (h : Dp K H v d) (s : SameX dk H H') (hd : H dk = some (.ext φ)) : Dp K H' v d := dpT_map (fun _ _ q => sqT_ext2 s hd q) n h
theorem dpAll_ext {K : PySem.W.Frag} {H H' : Hp} {dk : Addr} {xs : List V} {ds : List PyData} {φ : Heap → Prop} (n : noLs ds) (h : DpAll K H xs ds) (s : SameX dk H H') (hd : H dk = some (.ext φ)) : DpAll K H' xs ds := dpTs_map (fun _ _ q => sqT_ext2 s hd q) n h
theorem spans_ext {K : PySem.W.Frag} {H H' : Hp} {dk : Addr} {xs : List V} {qs : List (Int × Int)} {φ : Heap → Prop} (s : SameX dk H H') (hd : H dk = some (.ext φ)) (h : Spans K H xs qs) : Spans K H' xs qs :=
  Paired.mapP h fun _ _ ⟨t, h1, h2⟩ => ⟨t, h1, sqT_ext2 s hd h2⟩
theorem WorldAt.ext {K : PySem.W.Frag} {CS CT CR CP CW : Addr} {H H' : Hp} {a dk : Addr} {W : WorldD} {φ : Heap → Prop} (h : WorldAt K CS CT CR CP CW H a W) (z : SameX dk H H') (hd : H dk = some (.ext φ)) : WorldAt K CS CT CR CP CW H' a W := by
  obtain ⟨dx, t0, t1, t2, t3, x0, x1, x2, x3, g, a0, b0, a1, b1, a2, b2, a3, b3⟩ := h.ex
  refine ⟨dx, t0, t1, t2, t3, x0, x1, x2, x3, z _ _ (ext_ne g hd (fun _ z => nomatch z)) g, sqT_ext2 z hd a0, Paired.mapP b0 fun _ _ q => ?_, sqT_ext2 z hd a1, Paired.mapP b1 fun _ _ q => ?_, sqT_ext2 z hd a2, Paired.mapP b2 fun _ _ q => ?_, sqT_ext2 z hd a3, Paired.mapP b3 fun _ _ q => ?_⟩
  · obtain ⟨b, dx, t, ls, h1, h2, h3, h4⟩ := q
    exact ⟨b, dx, t, ls, h1, z _ _ (ext_ne h2 hd (fun _ z => nomatch z)) h2, sqT_ext2 z hd h3, spans_ext z hd h4⟩
  · obtain ⟨b, dx, h1, h2⟩ := q
    exact ⟨b, dx, h1, z _ _ (ext_ne h2 hd (fun _ z => nomatch z)) h2⟩
  · obtain ⟨b, dx, h1, h2⟩ := q
    exact ⟨b, dx, h1, z _ _ (ext_ne h2 hd (fun _ z => nomatch z)) h2⟩
  · obtain ⟨b, dx, t, h1, h2, h3⟩ := q
    exact ⟨b, dx, t, h1, z _ _ (ext_ne h2 hd (fun _ z => nomatch z)) h2, sqT_ext2 z hd h3⟩
theorem MeasAt.ext {K : PySem.W.Frag} {CS CT CR CP CW CM : Addr} {H H' : Hp} {a dk : Addr} {W : WorldD} {φ : Heap → Prop} (h : MeasAt K CS CT CR CP CW CM H a W) (s : SameX dk H H') (hd : H dk = some (.ext φ)) : MeasAt K CS CT CR CP CW CM H' a W := by
  obtain ⟨dm, ac, tc, tg, xs, h1, h2, h3, h4, h5⟩ := h.ex
  exact ⟨dm, ac, tc, tg, xs, s _ _ (ext_ne h1 hd (fun _ z => nomatch z)) h1, h2.ext s hd, s _ _ (ext_ne h3 hd (fun _ z => nomatch z)) h3, dpAll_ext (noLs_map noL_cho _) h4 s hd, s _ _ (ext_ne h5 hd (fun _ z => nomatch z)) h5⟩
/-- the object, and what it knows so far -/
structure NetsAt (P : Program) (w : World) (K : PySem.W.Frag) (CS CT CR CP CW CM CZ : Addr) (H : Hp) (x : Addr) (W : WorldD) (d : Int) (l : Prs) (dk : Addr) (n : Nat) : Prop where
  ob : ∃ dn am vp, H x = some (.ins CZ dn (netsF am d vp (rightsX W l) dk)) ∧ MeasAt K CS CT CR CP CW CM H am W ∧ Dp K H vp (prPy l)
  kn : ∃ ks, NkAt P w K H dk ks ∧ ks.length ≤ n ∧ ∀ i e v, nkGet ks (keyX i e) = some v → v = .int (netX W d l i e)
section
variable {P : Program} {w : World} {K : PySem.W.Frag} {CS CT CR CP CW CM CZ : Addr} {H H' : Hp} {x dk : Addr} {W : WorldD} {d : Int} {l : Prs} {n : Nat}
theorem NetsAt.dict (h : NetsAt P w K CS CT CR CP CW CM CZ H x W d l dk n) : ∃ φ, H dk = some (.ext φ) := by
  obtain ⟨ks, k1, _⟩ := h.kn
  exact ⟨_, k1.at_⟩
theorem NetsAt.mono {m : Nat} (h : NetsAt P w K CS CT CR CP CW CM CZ H x W d l dk n) (hm : n ≤ m) : NetsAt P w K CS CT CR CP CW CM CZ H x W d l dk m := by
  obtain ⟨ks, k1, k2, k3⟩ := h.kn
  exact ⟨h.ob, ⟨ks, k1, Nat.le_trans k2 hm, k3⟩⟩
theorem NetsAt.same (h : NetsAt P w K CS CT CR CP CW CM CZ H x W d l dk n) (s : Same H H') : NetsAt P w K CS CT CR CP CW CM CZ H' x W d l dk n := by
  obtain ⟨dn, am, vp, h1, h2, h3⟩ := h.ob
  obtain ⟨ks, k1, k2, k3⟩ := h.kn
  exact ⟨⟨dn, am, vp, s _ _ h1, h2.same s, dp_same s h3⟩, ⟨ks, k1.same s, k2, k3⟩⟩
end
section
variable {P : Program} {w : World} {K : PySem.W.Frag} {mg : Str → Option Value} {base : Heap} {CL CS CT CR CP CW aS aR fS fT fR fP aM CM CZ : Addr}
def spChkPr (K : PySem.W.Frag) (CS CT CR CP CW : Addr) : Sp := fun vs H Q _ => ∃ (ac : Addr) (W : WorldD) (d : Int) (v : V) (l : Prs), vs = [.ref ac, .int d, v] ∧ WorldAt K CS CT CR CP CW H ac W ∧ 1 ≤ d ∧ Dp K H v (prPy l) ∧ PrOk W l ∧ ∀ H', Same H H' → Q .non H'
set_option maxHeartbeats 8000000 in
theorem d_check_prices (T : TxtW K mg CL CS CT CR CP CW aS aR fS fT fR fP) (D_is_integer : DefOk P w K mg base CX0 1 "is_integer" ["thing"] spIsI) (D_is_tuple_of : DefOk P w K mg base CX0 1 "is_tuple_of" ["thing", "many"] (spIsTup K)) (D_check_row : DefOk P w K mg base CX0 3 "check_row" ["world", "row"] (spCheckRow K CS CT CR CP CW))
    (A : At K mg "check_prices" s_check_prices ["world", "divisor", "prices"]) : DefOk P w K mg base CX0 4 "check_prices" ["world", "divisor", "prices"] (spChkPr K CS CT CR CP CW) := by
  have B := T.L.B
  refine A.ok sc_check_prices (fun vs H Q E h => ?_) (fun f cdv A outer s H vs Q E hr h => ?_)
  · obtain ⟨ac, W, d, v, l, rfl, _⟩ := h
    rfl
  obtain ⟨ac, W, d, v, l, rfl, hW, hd, hv, ok, q⟩ := h
  refine ⟨_, pss_cons (ps_if (PW.pt (pw_or (pt_not (pt_val (pe_f D_is_integer (hr.mono (by omega)) pass0 (pa_cons (pv 1) pa_nil)))) (pw_or1 (pt_cmpR op_lt (pv 1) pe_int (nomark _)))))
      (pss_one (ps_never))
      (pss_nil))
  (pss_cons (ps_if (pt_not (pt_val (pe_callB (call_isi) (by rfl) B.isinstance (by decide +kernel) (pa_cons (pv 2) (pa_cons (pe_bltn (v := .ty "tuple") (u := .type "tuple") (by rfl) B.tuple (by decide +kernel) rfl) pa_nil)))))
      (pss_one (ps_never))
      (pss_nil))
  (pss_one (ps_for PassesOwn.never rfl (pi_tup (pv 2)) (pg_name (i := 3) sc_check_prices.nd rfl (Or.inl rfl))
      (pss_cons (ps_if (pt_not (pt_val (pe_f D_is_tuple_of (hr.mono (by omega)) pass0 (pa_cons (pv 3) (pa_cons pe_int pa_nil)))))
          (pss_one (ps_never))
          (pss_nil))
      (pss_cons (ps_asg (pv 3) (pg_tup (by rfl) (pgs_cons (pg_name (i := 4) sc_check_prices.nd rfl (Or.inl rfl)) (pgs_cons (pg_name (i := 5) sc_check_prices.nd rfl (Or.inl rfl)) (pgs_nil)))))
      (pss_cons (ps_expr (pe_f D_check_row (hr.mono (by omega)) pass0 (pa_cons (pv 0) (pa_cons (pv 4) pa_nil))))
      (pss_one (ps_if (PW.pt (pw_or (pt_not (pt_val (pe_f D_is_integer (hr.mono (by omega)) pass0 (pa_cons (pv 5) pa_nil)))) (pw_or1 (pt_cmpR op_lt (pv 5) pe_int (nomark _)))))
          (pss_one (ps_never))
          (pss_nil)))))))))
    , ?_⟩
  obtain ⟨tp, xs, rfl, ht, hx⟩ := dp_tup hv
  have lx := dpAll_len hx
  rw [List.length_map] at lx
  have l100 := ok.len
  refine ⟨_, rfl, d, rfl, _, rfl, iteF' rfl ⟨_, rfl, _, _, rfl, rfl, _, rfl, iteF' (decide_eq_false (by omega)) ?_⟩⟩
  refine ⟨_, rfl, _, .ty "tuple", _, _, true, rfl, .ty "tuple", tyx_tup ht, kit_ty (by decide +kernel), true, rfl, iteF' rfl ?_⟩
  refine ⟨_, rfl, tp, rfl, ⟨_, ht⟩, for_tup (K := K) (a := tp) (xs := xs) (fun i σ H' => ∃ y3 y4 y5, σ = [some (.ref ac), some (.int d), some (.ref tp), y3, y4, y5] ∧ Same H H') ⟨none, none, none, rfl, Same.refl _⟩ (fun i σ H' _ h => by obtain ⟨_, _, _, _, s⟩ := h; exact Same.tup s ht) (fun i v σ H1 hvx hI => ?_) (fun σ H1 hI => ?_)⟩
  · obtain ⟨y3, y4, y5, rfl, hs⟩ := hI
    obtain ⟨qr, hq, dq⟩ := dpAll_get hx hvx
    obtain ⟨u, t, rfl, hu, htt⟩ := dp_pr1 dq
    have hm := List.mem_of_getElem? hq
    have hpos := (ok.pos _ hm).1
    refine ⟨_, rfl, u, _, 2, rfl, Same.tup hs hu, _, rfl, iteF' rfl ?_⟩
    refine ⟨_, rfl, u, _, rfl, Same.tup hs hu, rfl, _, _, rfl, _, _, rfl, rfl, ?_⟩
    refine ⟨_, rfl, _, rfl, ac, t, W, qr.1, rfl, hW.same hs, Same.tup hs htt, ok.row _ hm, fun H2 s2 => ?_⟩
    refine ⟨_, rfl, qr.2, rfl, _, rfl, iteF' rfl ⟨_, rfl, _, _, rfl, rfl, _, rfl, iteF' (decide_eq_false (by (clear T D_is_integer D_is_tuple_of D_check_row B hr hW hd ok q hv ht hx lx l100 hs hq hvx dq hu htt hm s2; omega))) ?_⟩⟩
    exact ⟨_, _, _, rfl, hs.trans s2⟩
  · obtain ⟨y3, y4, y5, rfl, hs⟩ := hI
    exact q _ hs
def spCN (P : Program) (w : World) (K : PySem.W.Frag) (CS CT CR CP CW CM CZ : Addr) : Sp := fun vs H Q _ => ∃ (x dk : Addr) (W : WorldD) (d : Int) (l : Prs) (n i : Nat) (v : V) (e : EntX), vs = [.ref x, .int (i : Int), v] ∧ WorldOk W ∧ NetsAt P w K CS CT CR CP CW CM CZ H x W d l dk n ∧ (1 ≤ d ∧ d < 2 ^ 60) ∧ PrOk W l ∧ Dp K H v (entX e) ∧ EntOk W i e ∧ i < (gainsW W).length ∧
  ∀ H', Same H H' → Q (.int (cnet W d l i e)) H'
set_option maxHeartbeats 8000000 in
theorem d_choice_net (TN : TxtN K mg CM CZ) (D_Measure_part : MDef P w K mg base CX0 4 CM "part" ["self", "row", "thing", "entry"] [] (spPart K CS CT CR CP CW CM)) (D_Measure_entry_worth : MDef P w K mg base CX0 1 CM "entry_worth" ["self", "thing", "entry"] [] (spEW K CS CT CR CP CW CM)) (B : Bt mg)
    (A : MAt K CZ "choice_net" "Nets.choice_net" s_Nets_choice_net ["self", "thing", "entry"]) : MDef P w K mg base CX0 5 CZ "choice_net" ["self", "thing", "entry"] [] (spCN P w K CS CT CR CP CW CM CZ) := by
  have T := TN
  refine A.ok sc_Nets_choice_net (fun vs H Q E h => ?_) (fun f cdv A outer s H vs Q E hr h => ?_)
  · obtain ⟨x, dk, W, d, l, n, i, v, e, rfl, _⟩ := h
    rfl
  obtain ⟨x, dk, W, d, l, n, i, v, e, rfl, wok, hN, hd, ok, hv, eok, hi, q⟩ := h
  obtain ⟨dn, am, vp, h1, hM, hp⟩ := hN.ob
  obtain ⟨tp, xs, rfl, ht, hx⟩ := dp_tup hp
  have lx := dpAll_len hx
  rw [List.length_map] at lx
  have l100 := ok.len
  refine ⟨_, pss_cons (ps_setLc (own := [("row", 4), ("price", 5)]) (i := 3) rfl sc_Nets_choice_net.nd rfl rfl (sw_true rfl rfl rfl (by decide +kernel)) (pi_tup (pe_fld (pv 0) rfl)) (blkOk_by (own := [("row", 4), ("price", 5)]) (N := ["self", "thing", "entry", "parts", "row", "price"]) (sc := defScope s_Nets_choice_net) (by decide +kernel)) (fun _ _ _ _ _ => pg_tupK (K := K) (n := 2) rfl (by rfl) (pgs_cons (pg_name (i := 4) sc_Nets_choice_net.nd rfl (Or.inl rfl)) (pgs_cons (pg_name (i := 5) sc_Nets_choice_net.nd rfl (Or.inl rfl)) (pgs_nil)))) (fun _ _ _ _ _ => pts_nil) (fun _ _ _ _ _ => (pe_op op_mul (pv 5) (pe_m D_Measure_part T.c_Measure.cl (hr.mono (by omega)) pass0 (pe_fldK (K := K) rfl (pv 0) rfl) (pa_cons (pv 4) (pa_cons (pv 1) (pa_cons (pv 2) pa_nil)))))))
  (pss_one (ps_ret (pe_op op_sub (pe_op op_mul (pe_fld (pv 0) rfl) (pe_m D_Measure_entry_worth T.c_Measure.cl (hr.mono (by omega)) pass0 (pe_fld (pv 0) rfl) (pa_cons (pv 1) (pa_cons (pv 2) pa_nil)))) (pe_callB (cr_sum rfl) (by rfl) B.sum (by decide +kernel) (pa_cons (pv 3) pa_nil)))))
    , ?_⟩
  obtain ⟨dm, ac, tc, tg, ys, g1, g2, g3, g4, g5⟩ := hM.ex
  refine ⟨_, rfl, x, CZ, dn, _, _, rfl, h1, T.c_Nets.cl, TN.n_prices, lk_Ne_prices, tp, rfl, ⟨_, ht⟩, fun D hD => lc_tup (K := K) (a := tp) (xs := xs) (fun j H' => Same H H' ∧ H' D = some (.lst (((l.take j).map fun q => q.2 * partX W q.1 i e).map V.int))) ⟨same_new hD _, upd_same⟩ (fun j H' _ h => Same.tup h.1 ht) (fun j u H1 hu hI => ?_) (fun H1 hI => ?_)⟩
  · obtain ⟨hs, hDD⟩ := hI
    obtain ⟨qr, hq, dq⟩ := dpAll_get hx hu
    obtain ⟨u, t, rfl, hu2, htt⟩ := dp_pr1 dq
    have hm := List.mem_of_getElem? hq
    refine ⟨u, _, rfl, Same.tup hs hu2, rfl, _, _, rfl, _, _, rfl, rfl, rfl, _, rfl, ?_⟩
    refine ⟨_, rfl, x, CZ, dn, _, _, rfl, hs _ _ h1, T.c_Nets.cl, TN.n_measure, lk_Ne_measure, am, dm, _, rfl, hs _ _ g1, lk_Me_part, _, rfl, _, rfl, _, rfl, am, t, W, qr.1, i, v, e, rfl, wok, hM.same hs, Same.tup hs htt, ok.row _ hm, dp_same hs hv, eok, fun H2 s2 => ?_⟩
    have hpos := ok.pos _ hm
    exact ⟨_, _, rfl, rfl, .inl ⟨by (clear TN D_Measure_part D_Measure_entry_worth B T hr wok hN hd ok hv eok hi q hM h1 hp ht hx lx l100 g1 g2 g3 g4 g5 hD hs hDD hq hu dq hu2 htt hm s2; omega), by (clear TN D_Measure_part D_Measure_entry_worth B T hr wok hN hd ok hv eok hi q hM h1 hp ht hx lx l100 g1 g2 g3 g4 g5 hD hs hDD hq hu dq hu2 htt hm s2; omega)⟩, lc_step (f := fun q => q.2 * partX W q.1 i e) hq (by (clear TN D_Measure_part D_Measure_entry_worth B T hr wok hN hd ok hv eok hi q hM h1 hp ht hx g1 g2 g3 g4 g5 hD hs hDD hq hu dq hu2 htt hm s2 hpos; omega)) hD (hs.trans s2) (s2 _ _ hDD)⟩
  obtain ⟨hs, hDD⟩ := hI
  rw [lx, List.take_length] at hDD
  refine ⟨_, rfl, x, CZ, dn, _, _, rfl, hs _ _ h1, T.c_Nets.cl, TN.n_divisor, lk_Ne_divisor, _, rfl, x, CZ, dn, _, _, rfl, hs _ _ h1, T.c_Nets.cl, TN.n_measure, lk_Ne_measure, am, dm, _, rfl, hs _ _ g1, lk_Me_entry_worth, _, rfl, _, rfl, am, W, i, v, e, rfl, hM.same hs, dp_same hs hv, hi, _, _, rfl, rfl, .inl ⟨by omega, by omega⟩, _, rfl, D, _, rfl, SqL.of hDD, _, _, rfl, rfl, q _ hs⟩
theorem shp_entX (e : EntX) : SeqAt.shaped (entX e) = true := by cases e <;> first | rfl | decide +kernel
def opnX : EntX → Bool
  | .opn => true
  | _ => false
theorem eqv_opn (e : EntX) : PyData.eqv (entX e) (.str "open") = opnX e := by cases e <;> first | rfl | decide +kernel
theorem choW_len (W : WorldD) : (choW W).length = (gainsW W).length := by unfold choW gainsW; simp
theorem gains_len (W : WorldD) : (gainsW W).length = W.recs.length + W.pass.length := by unfold gainsW; simp
theorem choX_get {W : WorldD} {i : Nat} (hi : i < (gainsW W).length) : (choW W)[i]? = some (choX W i) := by
  unfold choX
  rw [List.getD_eq_getElem?_getD, List.getElem?_eq_getElem (by rw [choW_len]; exact hi)]
  rfl
theorem choX_rec {W : WorldD} {i : Nat} {z : RecD} (hz : W.recs[i]? = some z) : choX W i = choR W z := by
  have hi := (List.getElem?_eq_some_iff.mp hz).1
  unfold choX choW
  rw [List.getD_eq_getElem?_getD, List.getElem?_append_left (by rw [List.length_map]; exact hi), List.getElem?_map, hz]
  rfl
theorem choX_pas {W : WorldD} {k : Nat} {z : PasD} (hz : W.pass[k]? = some z) : choX W (W.recs.length + k) = choP W z := by
  unfold choX choW
  rw [List.getD_eq_getElem?_getD, List.getElem?_append_right (by rw [List.length_map]; omega), List.length_map, show W.recs.length + k - W.recs.length = k by omega, List.getElem?_map, hz]
  rfl
theorem choX_facts {W : WorldD} (wok : WorldOk W) {i : Nat} (hi : i < (gainsW W).length) : choX W i ≠ [] ∧ (choX W i).length ≤ 211 ∧ ∀ c ∈ choX W i, EntOk W i c := by
  rw [gains_len] at hi
  by_cases h : i < W.recs.length
  · obtain ⟨z, hz⟩ : ∃ z, W.recs[i]? = some z := ⟨_, List.getElem?_eq_getElem h⟩
    have ok := wok.recs z (List.mem_of_getElem? hz)
    have lo := optsW_len wok ok
    rw [choX_rec hz]
    refine ⟨(fun e => nomatch e), by unfold choR; rw [List.length_cons, List.length_map]; (clear wok hi h hz ok; omega), fun c hc => ?_⟩
    rcases List.mem_cons.mp hc with rfl | hc
    · trivial
    · obtain ⟨q, hq, rfl⟩ := List.mem_map.mp hc
      have := optsW_mem ok hq
      exact ⟨h, this.2.2.1, this.2.2.2⟩
  · obtain ⟨k, rfl⟩ : ∃ k, i = W.recs.length + k := ⟨i - W.recs.length, by omega⟩
    obtain ⟨z, hz⟩ : ∃ z, W.pass[k]? = some z := ⟨_, List.getElem?_eq_getElem (by omega)⟩
    have zok := wok.pass z (List.mem_of_getElem? hz)
    rw [choX_pas hz]
    obtain ⟨zt, hzt⟩ : ∃ zt, W.stas[z.sta]? = some zt := ⟨_, List.getElem?_eq_getElem zok.sta⟩
    have tok := wok.stas zt (List.mem_of_getElem? hzt)
    have ea : antOf W z = zt.antennas := by unfold antOf; rw [hzt]
    refine ⟨(fun e => nomatch e), ?_, fun c hc => ?_⟩
    · unfold choP
      rw [List.length_cons, List.length_map, List.length_range, ea]
      have := tok.antennas
      (clear wok hi h hz zok hzt tok ea; omega)
    rcases List.mem_cons.mp hc with rfl | hc
    · trivial
    · obtain ⟨q, hq, rfl⟩ := List.mem_map.mp hc
      exact ⟨by omega, by omega⟩
theorem netX_dec {W : WorldD} {d : Int} {l : Prs} {i : Nat} {e : EntX} (h : opnX e = false) : netX W d l i e = cnet W d l i e := by
  cases e with
  | opn => exact Bool.noConfusion h
  | non => rfl
  | at_ a b => rfl
  | ant a => rfl
def spNet (P : Program) (w : World) (K : PySem.W.Frag) (CS CT CR CP CW CM CZ : Addr) : Sp := fun vs H Q _ => ∃ (x dk : Addr) (W : WorldD) (d : Int) (l : Prs) (n i : Nat) (v : V) (e : EntX), vs = [.ref x, .int (i : Int), v] ∧ WorldOk W ∧ NetsAt P w K CS CT CR CP CW CM CZ H x W d l dk n ∧ (1 ≤ d ∧ d < 2 ^ 60) ∧ PrOk W l ∧ Dp K H v (entX e) ∧ (EntOk W i e ∨ e = .opn) ∧ i < (gainsW W).length ∧ n < 900 ∧
  ∀ H', SameX dk H H' → NetsAt P w K CS CT CR CP CW CM CZ H' x W d l dk (n + 1) → Q (.int (netX W d l i e)) H'
set_option maxHeartbeats 8000000 in
theorem d_net (TN : TxtN K mg CM CZ) (D_Nets_choice_net : MDef P w K mg base CX0 5 CZ "choice_net" ["self", "thing", "entry"] [] (spCN P w K CS CT CR CP CW CM CZ)) (B : Bt mg)
    (A : MAt K CZ "net" "Nets.net" s_Nets_net ["self", "thing", "entry"]) : MDef P w K mg base CX0 6 CZ "net" ["self", "thing", "entry"] [] (spNet P w K CS CT CR CP CW CM CZ) := by
  have T := TN
  refine A.ok sc_Nets_net (fun vs H Q E h => ?_) (fun f cdv A outer s H vs Q E hr h => ?_)
  · obtain ⟨x, dk, W, d, l, n, i, v, e, rfl, _⟩ := h
    rfl
  obtain ⟨x, dk, W, d, l, n, i, v, e, rfl, wok, hN, hd, ok, hv, eok, hi, hn, q⟩ := h
  refine ⟨_, pss_cons (ps_set (i := 3) sc_Nets_net.nd rfl (Or.inl rfl) (pe_tup (pa_cons (pv 1) (pa_cons (pv 2) pa_nil))))
  (pss_cons (ps_if (pt_cmpR (op_nkNotIn (hu9 hr)) (pv 3) (pe_fld (pv 0) rfl) (by rfl))
      (C8.pss_cut (ps_set (i := 4) sc_Nets_net.nd rfl (Or.inl rfl) (pe_ifExp (pt_cmpR (op_eqD hr.units) (pv 2) (pe_gs T.g_OPEN) (nomark _)) (pe_ix ix_list (pe_fld (pe_fld (pv 0) rfl) rfl) (pv 1) (fun _ _ => rfl)) (pe_tup (pa_cons (pv 2) pa_nil))))
      (pss_one (ps_nkput (hu9 hr) (pe_fld (pv 0) rfl) (pv 3) (pe_callB (cr_max rfl) (by rfl) B.max (by decide +kernel) (pa_cons (pe_lc (own := [("choice", 5)])  rfl sc_Nets_net.nd (pi_tup (pv 4)) (blkOk_by (own := [("choice", 5)]) (N := ["self", "thing", "entry", "key", "choices", "choice"]) (sc := defScope s_Nets_net) (by decide +kernel)) (fun _ _ _ _ _ => pg_name (i := 5) sc_Nets_net.nd rfl (Or.inl rfl)) (fun _ _ _ _ _ => pts_nil) (fun _ _ _ _ _ => (pe_m D_Nets_choice_net T.c_Nets.cl (hr.mono (by omega)) pass0 (pv 0) (pa_cons (pv 1) (pa_cons (pv 5) pa_nil))))) pa_nil)) (by rfl))))
      (pss_nil))
  (pss_one (ps_ret (pe_ix (ix_nk (hu9 hr)) (pe_fld (pv 0) rfl) (pv 3) (fun _ _ => rfl)))))
    , ?_⟩
  refine ⟨_, rfl, _, rfl, sz2_, fun kt hkt => ?_⟩
  have s1 := same_new hkt (.tup [.int (i : Int), v])
  have hk1 : Dp K (upd H kt (.tup [.int (i : Int), v])) (.ref kt) (keyX i e).data := by
    rw [keyX_data]
    exact .tup (SqT.of upd_same) (.cons (.int _) (.cons (dp_same s1 hv) .nil))
  generalize upd H kt (.tup [.int (i : Int), v]) = H1 at s1 hk1
  have hN1 := hN.same s1
  obtain ⟨dn, am, vp, h1, hM, hp⟩ := hN1.ob
  obtain ⟨ks, k1, k2, k3⟩ := hN1.kn
  refine ⟨_, rfl, _, rfl, x, CZ, dn, _, _, rfl, h1, T.c_Nets.cl, TN.n_known, lk_Ne_known, kt, dk, keyX i e, ks, rfl, rfl, hk1, keyX_depth i e, k1, _, rfl, ?_⟩
  cases g : nkGet ks (keyX i e) with
  | some v0 =>
    refine iteF' rfl ⟨_, rfl, x, CZ, dn, _, _, rfl, h1, T.c_Nets.cl, TN.n_known, lk_Ne_known, _, rfl, kt, dk, keyX i e, ks, _, rfl, rfl, hk1, keyX_depth i e, k1, g, ?_⟩
    rw [k3 _ _ _ g]
    exact q _ (SameX.of s1) (hN1.mono (by (clear TN D_Nets_choice_net B T hr wok hN hd ok hv eok hi hn q hkt s1 hk1 hN1 h1 hM hp k1 k2 k3 g; omega)))
  | none =>
    obtain ⟨dm, ac, tc, tg, ys, g1, g2, g3, g4, g5⟩ := hM.ex
    obtain ⟨cne, cln, cok⟩ := choX_facts wok hi
    refine iteT' rfl ⟨fun σ' H' => ∃ ct cs xs, σ' = [some (.ref x), some (.int (i : Int)), some v, some (.ref kt), some (.ref ct), none] ∧ Same H1 H' ∧ SqT K H' ct xs ∧ DpAll K H' xs (cs.map entX) ∧ (∀ c ∈ cs, EntOk W i c) ∧ cs ≠ [] ∧ cs.length ≤ 211 ∧ maxL (cs.map (cnet W d l i)) = netX W d l i e, ?_, fun σ' H2 h => ?_⟩
    · refine ⟨_, rfl, _, _, dp_same s1 hv, .str _, shp_entX e, by decide +kernel, _, rfl, ?_⟩
      cases eo : opnX e with
      | true =>
        have ee : e = .opn := by cases e <;> first | rfl | exact Bool.noConfusion eo
        obtain ⟨cv, hcv, dcv⟩ := dpAll_get2 g4 (choX_get hi)
        obtain ⟨ct, xs, rfl, hct, hxs⟩ := dp_tup dcv
        refine iteT' (by rw [eqv_opn, eo]) ⟨_, rfl, x, CZ, dn, _, _, rfl, h1, T.c_Nets.cl, TN.n_measure, lk_Ne_measure, am, CM, dm, _, _, rfl, g1, T.c_Measure.cl, TN.n_choices, lk_Me_choices, _, rfl, tc, ys, (i : Int), _, rfl, rfl, SqL.of g3, atI_nat hcv, ?_⟩
        exact ⟨ct, choX W i, xs, rfl, Same.refl _, hct, hxs, cok, cne, cln, by rw [ee]; rfl⟩
      | false =>
        have eok' : EntOk W i e := by
          rcases eok with h | h
          · exact h
          · rw [h] at eo; exact Bool.noConfusion eo
        refine iteF' (by rw [eqv_opn, eo]) ⟨_, rfl, (by show 1 ≤ sizeLine; decide), fun ct hct => ?_⟩
        have s2 := same_new hct (.tup [v])
        exact ⟨ct, [e], [v], rfl, s2, SqT.of upd_same, .cons (dp_same (s1.trans s2) hv) .nil, fun c hc => by rw [List.mem_singleton.mp hc]; exact eok', (fun z => nomatch z), by show 1 ≤ 211; decide, by rw [netX_dec eo]; rfl⟩
    · obtain ⟨ct, cs, xs, rfl, s2, hct, hxs, cok, cne, cln, emx⟩ := h
      have lxs := dpAll_len hxs
      rw [List.length_map] at lxs
      refine ⟨_, rfl, ct, rfl, ⟨_, hct⟩, fun D hD => lc_tup (K := K) (a := ct) (xs := xs) (fun j H' => Same H2 H' ∧ H' D = some (.lst (((cs.take j).map (cnet W d l i)).map V.int))) ⟨same_new hD _, upd_same⟩ (fun j H' _ h => Same.tup h.1 hct) (fun j u H3 hu hI => ?_) (fun H3 hI => ?_)⟩
      · obtain ⟨hs, hDD⟩ := hI
        obtain ⟨cj, hcj, dcj⟩ := dpAll_get hxs hu
        have s3 := s2.trans hs
        refine ⟨rfl, _, rfl, x, dn, _, rfl, s3 _ _ h1, lk_Ne_choice_net, _, rfl, _, rfl, x, dk, W, d, l, n, i, u, cj, rfl, wok, hN1.same s3, hd, ok, dp_same hs dcj, cok _ (List.mem_of_getElem? hcj), hi, fun H4 s4 => ?_⟩
        exact lc_step (f := cnet W d l i) hcj (by (clear TN D_Nets_choice_net B T hr wok hN hd ok hv eok hi hn q hkt s1 hk1 hN1 h1 hM hp k1 k2 k3 g g1 g2 g3 g4 g5 s2 hct hxs cok cne emx hD hu hs hDD hcj dcj s3 s4; omega)) hD (hs.trans s4) (s4 _ _ hDD)
      obtain ⟨hs, hDD⟩ := hI
      rw [lxs, List.take_length] at hDD
      have s3 := s2.trans hs
      refine ⟨D, _, rfl, SqL.of hDD, by rw [List.length_map]; exact List.length_pos_iff.mpr cne, fun m hm hle => ?_⟩
      have em := (maxL_of hm hle).trans emx
      subst em
      have hk3 := dp_same s3 hk1
      have k13 := k1.same s3
      refine ⟨_, rfl, x, CZ, dn, _, _, rfl, s3 _ _ h1, T.c_Nets.cl, TN.n_known, lk_Ne_known, _, rfl, kt, dk, keyX i e, ks, rfl, rfl, hk3, keyX_depth i e, k13, g, by (clear TN D_Nets_choice_net B T hr wok hN hd ok hv eok hi q hkt s1 hk1 hN1 h1 hM hp k1 k3 g g1 g2 g3 g4 g5 s2 hct hxs cok cne cln emx lxs hD hs hDD s3 hm hle hk3 k13; omega), ?_⟩
      have kp := k13.put (v := .int (netX W d l i e)) g hk3 (keyX_depth i e)
      have U : SameX dk H3 (upd H3 dk (nkO P w dk (ks ++ [(keyX i e, kt, .int (netX W d l i e))]))) := SameX.upd
      have d3 : H3 dk = some (nkO P w dk ks) := k13.at_
      have h5 := U _ _ (ext_ne (s3 _ _ h1) d3 (fun _ z => nomatch z)) (s3 _ _ h1)
      have gg := nkGet_snoc (k' := keyX i e) (a := kt) (v := .int (netX W d l i e)) g
      rw [if_pos rfl] at gg
      refine ⟨_, rfl, x, CZ, dn, _, _, rfl, h5, T.c_Nets.cl, TN.n_known, lk_Ne_known, _, rfl, kt, dk, keyX i e, _, _, rfl, rfl, dp_ext (noL_nk _) hk3 U d3, keyX_depth i e, kp, gg, ?_⟩
      refine q _ ((SameX.of (s1.trans s3)).trans U) ⟨⟨dn, am, vp, h5, (hM.same s3).ext U d3, dp_ext (noL_pr l) (dp_same s3 hp) U d3⟩, ⟨_, kp, by rw [List.length_append]; show ks.length + 1 ≤ n + 1; (clear TN D_Nets_choice_net B T hr wok hN hd ok hv eok hi hn q hkt s1 hk1 hN1 h1 hM hp k1 k3 g g1 g2 g3 g4 g5 s2 hct hxs cok cne cln emx lxs hD hs hDD s3 hm hle hk3 k13 kp U d3 h5 gg; omega), fun i' e' v' h' => ?_⟩⟩
      rw [nkGet_snoc g] at h'
      by_cases c : keyX i e = keyX i' e'
      · rw [if_pos c] at h'
        obtain ⟨rfl, rfl⟩ := keyX_inj c
        exact (Option.some.inj h').symm
      · rw [if_neg c] at h'
        exact k3 _ _ _ h'
theorem MeasAt.bare {C x dx0 a : Addr} {H H' : Hp} {W : WorldD} (h : MeasAt K CS CT CR CP CW CM H a W) (hx : H x = some (.ins C dx0 [])) (z : SameX x H H') : MeasAt K CS CT CR CP CW CM H' a W := by
  obtain ⟨dm, ac, tc, tg, xs, h1, h2, h3, h4, h5⟩ := h.ex
  exact ⟨dm, ac, tc, tg, xs, z _ _ (ne_bare hx h1 (by show 4 ≠ 0; decide)) h1, h2.bare hx z, z _ _ (ne_of h3 hx (fun z => nomatch z)) h3, dpTs_map (fun _ _ q => z.sqT hx q) (noLs_map noL_cho _) h4, z _ _ (ne_of h5 hx (fun z => nomatch z)) h5⟩
def spNetsI (P : Program) (w : World) (K : PySem.W.Frag) (CS CT CR CP CW CM CZ : Addr) : Sp := fun vs H Q _ => ∃ (x dx0 am : Addr) (W : WorldD) (d : Int) (v : V) (l : Prs), vs = [.ref x, .ref am, .int d, v] ∧ H x = some (.ins CZ dx0 []) ∧ WorldOk W ∧ MeasAt K CS CT CR CP CW CM H am W ∧ Dp K H v (prPy l) ∧ PrOk W l ∧
  ∀ H' dk, SameX x H H' → H dk = none → NetsAt P w K CS CT CR CP CW CM CZ H' x W d l dk 0 → Q .non H'
set_option maxHeartbeats 8000000 in
theorem dI_Nets (TN : TxtN K mg CM CZ) (B : Bt mg) (D_right_side : DefOk P w K mg base CX0 4 "right_side" ["world", "row"] (spRight K CS CT CR CP CW))
    (A : MAt K CZ "__init__" "Nets.__init__" s_Nets___init__ ["self", "measure", "divisor", "prices"]) : MDef P w K mg base CX0 5 CZ "__init__" ["self", "measure", "divisor", "prices"] [] (spNetsI P w K CS CT CR CP CW CM CZ) := by
  have T := TN
  refine A.ok sc_Nets___init__ (fun vs H Q E h => ?_) (fun f cdv A outer s H vs Q E hr h => ?_)
  · obtain ⟨x, dx0, am, W, d, v, l, rfl, _⟩ := h
    rfl
  obtain ⟨x, dx0, am, W, d, v, l, rfl, hx, wok, hM, hv, ok, q⟩ := h
  obtain ⟨tp, xs, rfl, ht, hxs⟩ := dp_tup hv
  have lx := dpAll_len hxs
  rw [List.length_map] at lx
  have l100 := ok.len
  refine ⟨_, pss_cons (ps_fld (pv 0) (pv 1) rfl)
  (pss_cons (ps_fld (pv 0) (pv 2) rfl)
  (pss_cons (ps_fld (pv 0) (pv 3) rfl)
  (pss_cons (ps_fld (pv 0) (pe_callB (cr_sum rfl) (by rfl) B.sum (by decide +kernel) (pa_cons (pe_lc (own := [("row", 4), ("price", 5)])  rfl sc_Nets___init__.nd (pi_tup (pv 3)) (blkOk_by (own := [("row", 4), ("price", 5)]) (N := ["self", "measure", "divisor", "prices", "row", "price"]) (sc := defScope s_Nets___init__) (by decide +kernel)) (fun _ _ _ _ _ => pg_tupK (K := K) (n := 2) rfl (by rfl) (pgs_cons (pg_name (i := 4) sc_Nets___init__.nd rfl (Or.inl rfl)) (pgs_cons (pg_name (i := 5) sc_Nets___init__.nd rfl (Or.inl rfl)) (pgs_nil)))) (fun _ _ _ _ _ => pts_nil) (fun _ _ _ _ _ => (pe_op op_mul (pv 5) (pe_f D_right_side (hr.mono (by omega)) pass0 (pa_cons (pe_fldK (K := K) rfl (pv 1) rfl) (pa_cons (pv 4) pa_nil)))))) pa_nil)) rfl)
  (pss_one (ps_fld (pv 0) pe_dnewN rfl)))))
    , ?_⟩
  refine ⟨_, rfl, _, rfl, x, CZ, dx0, _, rfl, hx, T.c_Nets.cl, TN.n_measure, (by show 0 < 1000; decide), ?_⟩
  rw [put_nil]
  refine ⟨_, rfl, _, rfl, x, CZ, dx0, _, rfl, upd_same, T.c_Nets.cl, TN.n_divisor, (by show 1 < 1000; decide), ?_⟩
  rw [put_miss (by decide +kernel), put_nil, upd_upd]
  refine ⟨_, rfl, _, rfl, x, CZ, dx0, _, rfl, upd_same, T.c_Nets.cl, TN.n_prices, (by show 2 < 1000; decide), ?_⟩
  rw [put_miss (by decide +kernel), put_miss (by decide +kernel), put_nil, upd_upd]
  have X1 : SameX x H (upd H x (.ins CZ dx0 [("measure", .ref am), ("divisor", .int d), ("prices", .ref tp)])) := SameX.upd
  have hx1 : (upd H x (.ins CZ dx0 [("measure", .ref am), ("divisor", .int d), ("prices", .ref tp)])) x = some (.ins CZ dx0 [("measure", .ref am), ("divisor", .int d), ("prices", .ref tp)]) := upd_same
  have fr1 : ∀ b, (upd H x (.ins CZ dx0 [("measure", .ref am), ("divisor", .int d), ("prices", .ref tp)])) b = none → H b = none := fun b hb => by
    by_cases c : b = x
    · rw [c, hx1] at hb; cases hb
    · rwa [upd_ne c] at hb
  generalize upd H x (.ins CZ dx0 [("measure", .ref am), ("divisor", .int d), ("prices", .ref tp)]) = H1 at X1 hx1 fr1
  have hM1 := hM.bare hx X1
  have ht1 := X1.sqT hx ht
  obtain ⟨dm, ac, tc, tg, ys, g1, g2, g3, g4, g5⟩ := hM1.ex
  have dx1 : DpAll K H1 xs (l.map prPy1) := dpTs_map (fun _ _ q => X1.sqT hx q) (noLs_map noL_pr1 l) hxs
  refine ⟨_, rfl, tp, rfl, ⟨_, ht1⟩, fun D hD => lc_tup (K := K) (a := tp) (xs := xs) (fun j H' => Same H1 H' ∧ H' D = some (.lst (((l.take j).map fun q => q.2 * rightW W q.1).map V.int))) ⟨same_new hD _, upd_same⟩ (fun j H' _ h => Same.tup h.1 ht1) (fun j u H2 hu hI => ?_) (fun H2 hI => ?_)⟩
  · obtain ⟨hs, hDD⟩ := hI
    obtain ⟨qr, hq, dq⟩ := dpAll_get dx1 hu
    obtain ⟨u, t, rfl, hu2, htt⟩ := dp_pr1 dq
    have hm := List.mem_of_getElem? hq
    have hpos := ok.pos _ hm
    refine ⟨u, _, rfl, Same.tup hs hu2, rfl, _, _, rfl, _, _, rfl, rfl, rfl, _, rfl, _, rfl, am, CM, dm, _, _, rfl, hs _ _ g1, T.c_Measure.cl, TN.n_world, lk_Me_world, _, rfl, ac, t, W, qr.1, rfl, wok, g2.same hs, Same.tup hs htt, ok.row _ hm, fun H3 s3 => ?_⟩
    exact ⟨_, _, rfl, rfl, .inl ⟨by (clear TN B D_right_side T hr hx wok hM ok q hv ht hxs lx l100 X1 hx1 fr1 hM1 ht1 g1 g2 g3 g4 g5 dx1 hD hs hDD hq hu dq hu2 htt hm s3; omega), by (clear TN B D_right_side T hr hx wok hM ok q hv ht hxs lx l100 X1 hx1 fr1 hM1 ht1 g1 g2 g3 g4 g5 dx1 hD hs hDD hq hu dq hu2 htt hm s3; omega)⟩, lc_step (f := fun q => q.2 * rightW W q.1) hq (by omega) hD (hs.trans s3) (s3 _ _ hDD)⟩
  obtain ⟨s2, hDD⟩ := hI
  rw [lx, List.take_length] at hDD
  have hx2 := s2 _ _ hx1
  refine ⟨D, _, rfl, SqL.of hDD, _, rfl, x, CZ, dx0, _, rfl, hx2, T.c_Nets.cl, TN.n_rights, (by show 3 < 1000; decide), ?_⟩
  rw [put_miss (by decide +kernel), put_miss (by decide +kernel), put_miss (by decide +kernel), put_nil]
  have X3 : SameX x H (upd H2 x (.ins CZ dx0 [("measure", .ref am), ("divisor", .int d), ("prices", .ref tp), ("rights", .int (rightsX W l))])) := (X1.trans (SameX.of s2)).at_
  have hx3 : (upd H2 x (.ins CZ dx0 [("measure", .ref am), ("divisor", .int d), ("prices", .ref tp), ("rights", .int (rightsX W l))])) x = some (.ins CZ dx0 [("measure", .ref am), ("divisor", .int d), ("prices", .ref tp), ("rights", .int (rightsX W l))]) := upd_same
  have fr3 : ∀ b, (upd H2 x (.ins CZ dx0 [("measure", .ref am), ("divisor", .int d), ("prices", .ref tp), ("rights", .int (rightsX W l))])) b = none → H b = none := fun b hb => by
    by_cases c : b = x
    · rw [c, hx3] at hb; cases hb
    · rw [upd_ne c] at hb
      exact fr1 b (s2.free hb)
  refine fun p hp => ⟨_, rfl, x, CZ, dx0, _, rfl, same_new hp _ _ _ hx3, T.c_Nets.cl, TN.n_known, (by show 4 < 1000; decide), ?_⟩
  rw [put_miss (by decide +kernel), put_miss (by decide +kernel), put_miss (by decide +kernel), put_miss (by decide +kernel), put_nil]
  have hpx : x ≠ p := ne_of_none hx3 hp
  have XX : SameX x H (upd (upd (upd H2 x (.ins CZ dx0 [("measure", .ref am), ("divisor", .int d), ("prices", .ref tp), ("rights", .int (rightsX W l))])) p (nkO P w p [])) x (.ins CZ dx0 [("measure", .ref am), ("divisor", .int d), ("prices", .ref tp), ("rights", .int (rightsX W l)), ("known", .ref p)])) := (X3.trans (SameX.of (same_new hp _))).at_
  exact q _ p XX (fr3 p hp) ⟨⟨dx0, am, .ref tp, upd_same, hM.bare hx XX, dp_bare (noL_pr l) hv hx XX⟩, ⟨[], ⟨(upd_ne (fun z => hpx z.symm)).trans upd_same, List.nodup_nil, fun _ h => absurd h List.not_mem_nil⟩, Nat.le_refl _, fun _ _ _ h => by unfold nkGet at h; cases h⟩⟩
/-- the entries of a case may stand where they do -/
structure EntsOk (W : WorldD) (c : CaseD) : Prop where
  nM : c.made.length = W.recs.length
  nT : c.taken.length = W.pass.length
  ok : ∀ (i : Nat) (e : EntX), (entsX c)[i]? = some e → EntOk W i e ∨ e = .opn
theorem ents_len {W : WorldD} {c : CaseD} (h : EntsOk W c) : (entsX c).length = (gainsW W).length := by
  rw [gains_len]
  unfold entsX
  rw [List.length_append, List.length_map, List.length_map, h.nM, h.nT]
theorem sameX_at {H H' : Hp} {dk D : Addr} {o : HO} (hD : H D = none) (s : SameX dk H H') : SameX dk H (upd H' D o) := fun b u n h => by
  rw [upd_ne (ne_of_none h hD)]
  exact s b u n h
theorem NkAt.lst {H : Hp} {D dk : Addr} {ys : List V} {o : HO} {ks : NkL} (k : NkAt P w K H dk ks) (e : H D = some (.lst ys)) : NkAt P w K (upd H D o) dk ks := by
  refine ⟨?_, k.nod, fun z hz => ⟨dpT_up (noL_nk _) e (k.keys z hz).1, (k.keys z hz).2⟩⟩
  rw [upd_ne (fun z => ext_ne e k.at_ (fun _ z => nomatch z) z.symm)]
  exact k.at_
theorem NetsAt.ob_ext {H H' : Hp} {x dk : Addr} {W : WorldD} {d : Int} {l : Prs} {n m : Nat} (h : NetsAt P w K CS CT CR CP CW CM CZ H x W d l dk n) (s : SameX dk H H') (k : ∃ ks, NkAt P w K H' dk ks ∧ ks.length ≤ m ∧ ∀ i e v, nkGet ks (keyX i e) = some v → v = .int (netX W d l i e)) : NetsAt P w K CS CT CR CP CW CM CZ H' x W d l dk m := by
  obtain ⟨φ, hd⟩ := h.dict
  obtain ⟨dn, am, vp, h1, h2, h3⟩ := h.ob
  exact ⟨⟨dn, am, vp, s _ _ (ext_ne h1 hd (fun _ z => nomatch z)) h1, h2.ext s hd, dp_ext (noL_pr l) h3 s hd⟩, k⟩
def spBndM (P : Program) (w : World) (K : PySem.W.Frag) (CS CT CR CP CW CM CZ : Addr) : Sp := fun vs H Q _ => ∃ (x dk : Addr) (W : WorldD) (d : Int) (l : Prs) (n : Nat) (v : V) (c : CaseD), vs = [.ref x, v] ∧ WorldOk W ∧ NetsAt P w K CS CT CR CP CW CM CZ H x W d l dk n ∧ (1 ≤ d ∧ d < 2 ^ 60) ∧ PrOk W l ∧ Dp K H v (casePy c) ∧ EntsOk W c ∧ n ≤ 800 ∧
  ∀ H', SameX dk H H' → NetsAt P w K CS CT CR CP CW CM CZ H' x W d l dk (n + 20) → Q (.int (boundX W d l (entsX c))) H'
set_option maxHeartbeats 8000000 in
theorem d_Nets_bound (TN : TxtN K mg CM CZ) (D_entries_of : DefOk P w K mg base CX0 1 "entries_of" ["case"] (spEnts K)) (D_Nets_net : MDef P w K mg base CX0 6 CZ "net" ["self", "thing", "entry"] [] (spNet P w K CS CT CR CP CW CM CZ)) (B : Bt mg)
    (A : MAt K CZ "bound" "Nets.bound" s_Nets_bound ["self", "case"]) : MDef P w K mg base CX0 7 CZ "bound" ["self", "case"] [] (spBndM P w K CS CT CR CP CW CM CZ) := by
  have T := TN
  refine A.ok sc_Nets_bound (fun vs H Q E h => ?_) (fun f cdv A outer s H vs Q E hr h => ?_)
  · obtain ⟨x, dk, W, d, l, n, v, c, rfl, _⟩ := h
    rfl
  obtain ⟨x, dk, W, d, l, n, v, c, rfl, wok, hN, hd, ok, hv, eok, hn, q⟩ := h
  have nR := wok.nRecs
  have nP := wok.nPass
  have el := ents_len eok
  have gl := gains_len W
  obtain ⟨dn, am, vp, h1, hM, hp⟩ := hN.ob
  refine ⟨_, pss_one (ps_ret (pe_op op_add (pe_fld (pv 0) rfl) (pe_callB (cr_sum rfl) (by rfl) B.sum (by decide +kernel) (pa_cons (pe_lc (own := [("thing", 2), ("entry", 3)])  rfl sc_Nets_bound.nd (pi_enumT (by rfl) B.enumerate (pa_cons (pe_f D_entries_of (hr.mono (by omega)) pass0 (pa_cons (pv 1) pa_nil)) pa_nil)) (blkOk_by (own := [("thing", 2), ("entry", 3)]) (N := ["self", "case", "thing", "entry"]) (sc := defScope s_Nets_bound) (by decide +kernel)) (fun _ _ _ _ _ => pg_tupK (K := K) (n := 2) rfl (by rfl) (pgs_cons (pg_name (i := 2) sc_Nets_bound.nd rfl (Or.inl rfl)) (pgs_cons (pg_name (i := 3) sc_Nets_bound.nd rfl (Or.inl rfl)) (pgs_nil)))) (fun _ _ _ _ _ => pts_nil) (fun _ _ _ _ _ => (pe_m D_Nets_net T.c_Nets.cl (hr.mono (by omega)) pass0 (pv 0) (pa_cons (pv 2) (pa_cons (pv 3) pa_nil))))) pa_nil))))
    , ?_⟩
  refine ⟨_, rfl, x, CZ, dn, _, _, rfl, h1, T.c_Nets.cl, TN.n_rights, lk_Ne_rights, _, rfl, v, c, rfl, hv, by rw [eok.nM]; exact nR, by rw [eok.nT]; exact nP, fun t xs H1 s1 ht hxs => ?_⟩
  have lx := dpAll_len hxs
  rw [List.length_map] at lx
  have hN1 := hN.same s1
  obtain ⟨φ, hdk⟩ := hN1.dict
  refine ⟨t, xs, rfl, ht, fun D hD => lc_it (walk_enumT (K := K) (a := t) (xs := xs)) (fun i H' => SameX dk H1 H' ∧ NetsAt P w K CS CT CR CP CW CM CZ H' x W d l dk (n + i) ∧ H' D = some (.lst (((List.range i).map fun i => netX W d l i ((entsX c).getD i .non)).map V.int))) ⟨SameX.of (same_new hD _), hN1.same (same_new hD _), upd_same⟩ (fun i H' _ h => sqT_ext2 h.1 hdk ht) (fun i u H2 H3 hi hI hy => ?_) (fun H2 hI => ?_)⟩
  · obtain ⟨hs, hN2, hDD⟩ := hI
    obtain ⟨tp, u, rfl, htp, rfl, hu⟩ := hy
    obtain ⟨e, he, de⟩ := dpAll_get hxs hu
    have hi' : i < (gainsW W).length := by (clear TN D_entries_of D_Nets_net B T hr wok hN hd ok hv eok hn q nR nP gl h1 hM hp s1 ht hxs hN1 hdk hD hs hN2 hDD htp hu he de; omega)
    have sT := same_new htp (.tup [.int (0 + (i : Nat)), u])
    have hN3 := hN2.same sT
    obtain ⟨dn3, am3, vp3, h3, _, _⟩ := hN3.ob
    have X3 := hs.trans (SameX.of sT)
    have hD3 := sT _ _ hDD
    obtain ⟨ψ, hdk3⟩ := hN3.dict
    have du : Dp K (upd H2 tp (.tup [.int (0 + (i : Nat)), u])) u (entX e) := dp_ext (noL_entX e) de X3 hdk
    refine ⟨tp, _, rfl, SqT.of upd_same, rfl, _, _, rfl, _, _, rfl, rfl, rfl, _, rfl, x, dn3, _, rfl, h3, lk_Ne_net, _, rfl, _, rfl, x, dk, W, d, l, n + i, i, u, e, (by rw [Int.zero_add]; rfl), wok, hN3, hd, ok, du, eok.ok i e he, hi', by omega, fun H4 X4 hN4 => ?_⟩
    have hD4 := X4 _ _ (ext_ne hD3 hdk3 (fun _ z => nomatch z)) hD3
    have XZ : ∀ o, SameX dk H1 (upd H4 D o) := fun o => sameX_at hD (X3.trans X4)
    have ge : (entsX c).getD i .non = e := by rw [List.getD_eq_getElem?_getD, he]; rfl
    obtain ⟨ks, k1, k2, k3⟩ := hN4.kn
    refine ⟨_, hD4, by rw [List.length_map, List.length_map, List.length_range]; exact small1000 (by (clear TN D_entries_of D_Nets_net B T hr wok hN hd ok hv eok hn q h1 hM hp s1 ht hxs hN1 hdk hD hs hN2 hDD htp hu he de hi' sT hN3 h3 X3 hD3 hdk3 du X4 hN4 hD4 XZ ge k1 k2 k3; omega)), XZ _, hN1.ob_ext (XZ _) ⟨ks, k1.lst hD4, by omega, k3⟩, ?_⟩
    rw [upd_same, List.range_succ, List.map_append, List.map_append, ← ge]
    rfl
  · obtain ⟨hs, hN2, hDD⟩ := hI
    refine ⟨D, _, rfl, SqL.of hDD, _, _, rfl, rfl, ?_⟩
    have := q H2 ((SameX.of s1).trans hs) (hN2.mono (by omega))
    unfold boundX at this
    rw [← lx] at this
    exact this
def spBound (K : PySem.W.Frag) (CS CT CR CP CW : Addr) : Sp := fun vs H Q _ => ∃ (ac : Addr) (W : WorldD) (d : Int) (v vp : V) (l : Prs) (c : CaseD), vs = [.ref ac, v, .int d, vp] ∧ WorldOk W ∧ WorldAt K CS CT CR CP CW H ac W ∧ (1 ≤ d ∧ d < 2 ^ 60) ∧ PrOk W l ∧ Dp K H vp (prPy l) ∧ Dp K H v (casePy c) ∧ EntsOk W c ∧
  ∀ H', Same H H' → Q (.int (boundX W d l (entsX c))) H'
set_option maxHeartbeats 8000000 in
theorem d_bound (TN : TxtN K mg CM CZ) (D_check_prices : DefOk P w K mg base CX0 4 "check_prices" ["world", "divisor", "prices"] (spChkPr K CS CT CR CP CW)) (DI_Measure : MDef P w K mg base CX0 4 CM "__init__" ["self", "world", "factor"] [.int 1] (spMeas K CS CT CR CP CW CM)) (DI_Nets : MDef P w K mg base CX0 5 CZ "__init__" ["self", "measure", "divisor", "prices"] [] (spNetsI P w K CS CT CR CP CW CM CZ))
    (D_Nets_bound : MDef P w K mg base CX0 7 CZ "bound" ["self", "case"] [] (spBndM P w K CS CT CR CP CW CM CZ)) (B : Bt mg) (A : At K mg "bound" s_bound ["world", "case", "divisor", "prices"]) : DefOk P w K mg base CX0 8 "bound" ["world", "case", "divisor", "prices"] (spBound K CS CT CR CP CW) := by
  have T := TN
  refine A.ok sc_bound (fun vs H Q E h => ?_) (fun f cdv A outer s H vs Q E hr h => ?_)
  · obtain ⟨ac, W, d, v, vp, l, c, rfl, _⟩ := h
    rfl
  obtain ⟨ac, W, d, v, vp, l, c, rfl, wok, hW, hd, ok, hvp, hv, eok, q⟩ := h
  refine ⟨_, pss_cons (ps_expr (pe_f D_check_prices (hr.mono (by omega)) pass0 (pa_cons (pv 0) (pa_cons (pv 2) (pa_cons (pv 3) pa_nil)))))
  (pss_one (ps_ret (pe_m D_Nets_bound T.c_Nets.cl (hr.mono (by omega)) pass0 (pe_mk DI_Nets T.c_Nets (hr.mono (by omega)) pass0 (pa_cons (pe_mk DI_Measure T.c_Measure (hr.mono (by omega)) pass0 (pa_cons (pv 0) pa_nil)) (pa_cons (pv 2) (pa_cons (pv 3) pa_nil)))) (pa_cons (pv 1) pa_nil))))
    , ?_⟩
  refine ⟨_, rfl, _, rfl, _, rfl, ac, W, d, vp, l, rfl, hW, hd.1, hvp, ok, fun H1 s1 => ?_⟩
  refine ⟨_, rfl, fun am dm ham hdm nad => ?_⟩
  have sM : Same H1 (upd (upd H1 dm (.own am)) am (.ins CM dm [])) := same_at ham (same_new hdm _) _
  refine ⟨am, dm, ac, W, rfl, upd_same, wok, (hW.same s1).same sM, fun H2 X2 hM => ⟨rfl, _, rfl, _, rfl, fun x dx hx hdx ndx => ?_⟩⟩
  have s2 : Same H1 H2 := fun b o h => X2 b o (ne_of_none h ham) (sM b o h)
  have sN : Same H2 (upd (upd H2 dx (.own x)) x (.ins CZ dx [])) := same_at hx (same_new hdx _) _
  have s02 := s1.trans s2
  refine ⟨x, dx, am, W, d, vp, l, rfl, upd_same, wok, hM.same sN, dp_same (s02.trans sN) hvp, ok, fun H3 dk X3 hdk hN => ⟨rfl, ?_⟩⟩
  have s3 : Same H2 H3 := fun b o h => X3 b o (ne_of_none h hx) (sN b o h)
  have s03 := s02.trans s3
  have fdk := (s02.trans sN).free hdk
  obtain ⟨dn, _, _, h3, _, _⟩ := hN.ob
  exact ⟨x, dn, _, rfl, h3, lk_Ne_bound, _, rfl, x, dk, W, d, l, 0, v, c, rfl, wok, hN, hd, ok, dp_same s03 hv, eok, by omega, fun H4 X4 _ => q H4 fun b o h => X4 b o (ne_of_none h fdk) (s03 b o h)⟩
end
end DP
namespace DP
open PySem PySem.Spec PyProof.Rows L2
abbrev s__law_row : Stmt := topS 89
theorem sc__law_row : FnScope ["world", "cell", "n", "kind", "s", "m", "first"] ["world", "cell"] (defScope s__law_row) := ⟨rfl, rfl, rfl, by decide +kernel, rfl, by decide +kernel, by decide +kernel⟩
theorem four_ {ds : List Int} (h : ds.length = 4) : ∃ d0 d1 d2 d3, ds = [d0, d1, d2, d3] := match ds, h with | [_, _, _, _], _ => ⟨_, _, _, _, rfl⟩
section
variable {P : Program} {w : World} {K : PySem.W.Frag} {mg : Str → Option Value} {base : Heap} {CL CS CT CR CP CW aS aR fS fT fR fP aM : Addr}
def spLawRow (K : PySem.W.Frag) (CS CT CR CP CW : Addr) : Sp := fun vs H Q _ => ∃ (ac : Addr) (W : WorldD) (x : Int), vs = [.ref ac, .int x] ∧ CG W ∧ WorldAt K CS CT CR CP CW H ac W ∧ ∀ (t : Addr) (r : RowD) (H' : Hp), Same H H' → RowOk W r → SqT K H' t (rowV r) → Q (.ref t) H'
set_option maxHeartbeats 8000000 in
theorem d_law_row (T : TxtW K mg CL CS CT CR CP CW aS aR fS fT fR fP) (D_law_draws : DefOk P w K mg base CX0 1 "_law_draws" ["cell", "count"] spDrawsC) (A : At K mg "_law_row" s__law_row ["world", "cell"]) : DefOk P w K mg base CX0 2 "_law_row" ["world", "cell"] (spLawRow K CS CT CR CP CW) := by
  have B := T.L.B
  refine A.ok sc__law_row (fun vs H Q E h => ?_) (fun f cdv A outer s H vs Q E hr h => ?_)
  · obtain ⟨ac, W, x, rfl, _⟩ := h
    rfl
  obtain ⟨ac, W, x, rfl, wg, hW, q⟩ := h
  refine ⟨_, pss_cons (ps_set (i := 2) sc__law_row.nd rfl (Or.inl rfl) (pe_f D_law_draws (hr.mono (by omega)) pass0 (pa_cons (pv 1) (pa_cons pe_int pa_nil))))
  (pss_cons (ps_set (i := 3) sc__law_row.nd rfl (Or.inl rfl) (pe_ix ix_tup (pe_tup (pa_cons pe_str (pa_cons pe_str (pa_cons pe_str (pa_cons pe_str (pa_cons pe_str (pa_cons pe_str pa_nil))))))) (pe_op op_mod (pe_ix ix_list (pv 2) pe_int (fun _ _ => rfl)) pe_int) (fun _ _ => rfl)))
  (pss_cons (ps_if (pt_cmpR op_eq (pv 3) pe_str (nomark _))
      (pss_one (ps_ret (pe_tup (pa_cons (pv 3) (pa_cons (pe_op op_mod (pe_ix ix_list (pv 2) pe_int (fun _ _ => rfl)) (pe_callB (call_len_seq) (by rfl) B.len (by decide +kernel) (pa_cons (pe_fld (pv 0) rfl) pa_nil))) pa_nil)))))
      (pss_nil))
  (pss_cons (ps_if (pt_cmpR op_eq (pv 3) pe_str (nomark _))
      (pss_one (ps_ret (pe_tup (pa_cons (pv 3) (pa_cons (pe_op op_mod (pe_ix ix_list (pv 2) pe_int (fun _ _ => rfl)) (pe_callB (call_len_seq) (by rfl) B.len (by decide +kernel) (pa_cons (pe_fld (pv 0) rfl) pa_nil))) (pa_cons (pe_op op_mod (pe_ix ix_list (pv 2) pe_int (fun _ _ => rfl)) (pe_fld (pv 0) rfl)) pa_nil))))))
      (pss_nil))
  (pss_cons (ps_set (i := 4) sc__law_row.nd rfl (Or.inl rfl) (pe_op op_mod (pe_ix ix_list (pv 2) pe_int (fun _ _ => rfl)) (pe_callB (call_len_seq) (by rfl) B.len (by decide +kernel) (pa_cons (pe_fld (pv 0) rfl) pa_nil))))
  (pss_cons (ps_set (i := 5) sc__law_row.nd rfl (Or.inl rfl) (pe_op op_mod (pe_ix ix_list (pv 2) pe_int (fun _ _ => rfl)) (pe_fld (pv 0) rfl)))
  (pss_cons (ps_if (pt_cmpR op_ne (pv 3) pe_str (nomark _))
      (pss_one (ps_ret (pe_tup (pa_cons (pv 3) (pa_cons (pv 4) (pa_cons (pv 5) pa_nil))))))
      (pss_nil))
  (pss_cons (ps_set (i := 6) sc__law_row.nd rfl (Or.inl rfl) (pe_op op_mod (pe_ix ix_list (pv 2) pe_int (fun _ _ => rfl)) (pe_op op_sub (pe_fld (pv 0) rfl) pe_int)))
  (pss_one (ps_ret (pe_tup (pa_cons (pv 3) (pa_cons (pv 4) (pa_cons (pv 6) (pa_cons (pe_op op_add (pe_op op_add (pv 6) pe_int) (pe_op op_mod (pe_ix ix_list (pv 2) pe_int (fun _ _ => rfl)) (pe_op op_sub (pe_op op_sub (pe_fld (pv 0) rfl) pe_int) (pv 6)))) pa_nil))))))))))))))
    , ?_⟩
  refine ⟨_, rfl, x, 4, rfl, by decide, fun p ds H1 s1 np hl hp => ?_⟩
  obtain ⟨d0, d1, d2, d3, rfl⟩ := four_ hl
  obtain ⟨dx, t0, t1, t2, t3, x0, x1, x2, x3, gw, j0, q0, j1, q1, j2, q2, j3, q3⟩ := (hW.same s1).ex
  have l0 := paired_len q0
  have l1 := paired_len q1
  have l3 := paired_len q3
  have nS := wg.nS
  have nT := wg.nT
  have nP := wg.nP
  have hh := wg.hor
  have p3 : (0 : Int) < (x3.length : Int) := by (clear T D_law_draws B hr wg hW q s1 np hl hp gw j0 q0 j1 q1 j2 q2 j3 q3 l0 l1 nS nT hh; omega)
  have p1 : (0 : Int) < (x1.length : Int) := by (clear T D_law_draws B hr wg hW q s1 np hl hp gw j0 q0 j1 q1 j2 q2 j3 q3 l0 l3 nS nP hh p3; omega)
  have p0 : (0 : Int) < (x0.length : Int) := by omega
  have hz : (0 : Int) < W.horizon := by (clear T D_law_draws B hr wg hW q s1 np hl hp gw j0 q0 j1 q1 j2 q2 j3 q3 l0 l1 l3 nS nT nP p3 p1 p0; omega)
  obtain ⟨kp, ekp⟩ : ∃ k : Nat, d1 % (x3.length : Int) = (k : Int) := ⟨(d1 % (x3.length : Int)).toNat, by have := Int.emod_nonneg d1 (b := (x3.length : Int)) (by (clear T D_law_draws B hr wg hW q s1 np hl hp gw j0 q0 j1 q1 j2 q2 j3 q3 l0 l1 nS nT hh p3 p1 p0 hz; omega)); (clear T D_law_draws B hr wg hW q s1 np hl hp gw j0 q0 j1 q1 j2 q2 j3 q3 l0 l1 l3 nS nT nP hh p3 p1 p0 hz; omega)⟩
  have bkp := Int.emod_lt_of_pos d1 p3
  obtain ⟨kt, ekt⟩ : ∃ k : Nat, d1 % (x1.length : Int) = (k : Int) := ⟨(d1 % (x1.length : Int)).toNat, by have := Int.emod_nonneg d1 (b := (x1.length : Int)) (by (clear T D_law_draws B hr wg hW q s1 np hl hp gw j0 q0 j1 q1 j2 q2 j3 q3 l0 l3 nS nP hh p3 p1 p0 hz ekp bkp; omega)); (clear T D_law_draws B hr wg hW q s1 np hl hp gw j0 q0 j1 q1 j2 q2 j3 q3 l0 l1 l3 nS nT nP hh p3 p1 p0 hz ekp bkp; omega)⟩
  have bkt := Int.emod_lt_of_pos d1 p1
  obtain ⟨ks, eks⟩ : ∃ k : Nat, d1 % (x0.length : Int) = (k : Int) := ⟨(d1 % (x0.length : Int)).toNat, by have := Int.emod_nonneg d1 (b := (x0.length : Int)) (by (clear T D_law_draws B hr wg hW q s1 np hl hp gw j0 q0 j1 q1 j2 q2 j3 q3 l1 l3 nT nP hh p3 p1 p0 hz ekp bkp ekt bkt; omega)); (clear T D_law_draws B hr wg hW q s1 np hl hp gw j0 q0 j1 q1 j2 q2 j3 q3 l0 l1 l3 nS nT nP hh p3 p1 p0 hz ekp bkp ekt bkt; omega)⟩
  have bks := Int.emod_lt_of_pos d1 p0
  obtain ⟨km, ekm⟩ : ∃ k : Nat, d2 % W.horizon = (k : Int) := ⟨(d2 % W.horizon).toNat, by have := Int.emod_nonneg d2 (b := W.horizon) (by (clear T D_law_draws B hr wg hW q s1 np hl hp gw j0 q0 j1 q1 j2 q2 j3 q3 l0 l1 l3 nS nT nP p3 p1 p0 hz ekp bkp ekt bkt eks bks; omega)); (clear T D_law_draws B hr wg hW q s1 np hl hp gw j0 q0 j1 q1 j2 q2 j3 q3 l0 l1 l3 nS nT nP hh p3 p1 p0 hz ekp bkp ekt bkt eks bks; omega)⟩
  have bkm := Int.emod_lt_of_pos d2 hz
  obtain ⟨k0, ek0⟩ : ∃ k : Nat, d3 % (W.horizon - 1) = (k : Int) := ⟨(d3 % (W.horizon - 1)).toNat, by have := Int.emod_nonneg d3 (b := W.horizon - 1) (by (clear T D_law_draws B hr wg hW q s1 np hl hp gw j0 q0 j1 q1 j2 q2 j3 q3 l0 l1 l3 nS nT nP p3 p1 p0 hz ekp bkp ekt bkt eks bks ekm bkm; omega)); (clear T D_law_draws B hr wg hW q s1 np hl hp gw j0 q0 j1 q1 j2 q2 j3 q3 l0 l1 l3 nS nT nP hh p3 p1 p0 hz ekp bkp ekt bkt eks bks ekm bkm; omega)⟩
  have bk0 := Int.emod_lt_of_pos d3 (show 0 < W.horizon - 1 by (clear T D_law_draws B hr wg hW q s1 np hl hp gw j0 q0 j1 q1 j2 q2 j3 q3 l0 l1 l3 nS nT nP p3 p1 p0 hz ekp bkp ekt bkt eks bks ekm bkm ek0; omega))
  have pd : 0 < W.horizon - 1 - (k0 : Int) := by (clear T D_law_draws B hr wg hW q s1 np hl hp gw j0 q0 j1 q1 j2 q2 j3 q3 l0 l1 l3 nS nT nP p3 p1 p0 hz ekp bkp ekt bkt eks bks ekm bkm; omega)
  obtain ⟨k1, ek1⟩ : ∃ k : Nat, d2 % (W.horizon - 1 - (k0 : Int)) = (k : Int) := ⟨(d2 % (W.horizon - 1 - (k0 : Int))).toNat, by have := Int.emod_nonneg d2 (b := W.horizon - 1 - (k0 : Int)) (by (clear T D_law_draws B hr wg hW q s1 np hl hp gw j0 q0 j1 q1 j2 q2 j3 q3 l0 l1 l3 nS nT nP p3 p1 p0 hz ekp bkp ekt bkt eks bks ekm bkm pd; omega)); (clear T D_law_draws B hr wg hW q s1 np hl hp gw j0 q0 j1 q1 j2 q2 j3 q3 l0 l1 l3 nS nT nP hh p3 p1 p0 hz ekp bkp ekt bkt eks bks ekm bkm ek0 bk0 pd; omega)⟩
  have bk1 := Int.emod_lt_of_pos d2 pd
  have mins1 : ∀ m ∈ [km], (m : Int) < W.horizon := fun m hm => by rw [List.mem_singleton.mp hm]; (clear T D_law_draws B hr wg hW q s1 np hl hp gw j0 q0 j1 q1 j2 q2 j3 q3 l0 l1 l3 nS nT nP p3 p1 p0 hz ekp bkp ekt bkt eks bks ek0 bk0 pd ek1 bk1 hm; omega)
  refine ⟨(by show 6 ≤ sizeLine; decide), fun tk htk => ?_⟩
  have stk := same_new htk (.tup [.str "room", .str "station", .str "satellite", .str "store", .str "energy", .str "energy from"])
  have hp2 := stk _ _ hp
  have htk2 : SqT K (upd H1 tk (.tup [.str "room", .str "station", .str "satellite", .str "store", .str "energy", .str "energy from"])) tk [.str "room", .str "station", .str "satellite", .str "store", .str "energy", .str "energy from"] := SqT.of upd_same
  generalize upd H1 tk (.tup [.str "room", .str "station", .str "satellite", .str "store", .str "energy", .str "energy from"]) = H2 at stk hp2 htk2
  have gw2 := stk _ _ gw
  have sA := s1.trans stk
  have kd : d0 % 6 = 0 ∨ d0 % 6 = 1 ∨ d0 % 6 = 2 ∨ d0 % 6 = 3 ∨ d0 % 6 = 4 ∨ d0 % 6 = 5 := by (clear T D_law_draws B hr wg hW q s1 np hl hp gw j0 q0 j1 q1 j2 q2 j3 q3 l0 l1 l3 nS nT nP hh p3 p1 p0 hz ekp bkp ekt bkt eks bks ekm bkm ek0 bk0 pd ek1 bk1 mins1 htk stk hp2 htk2 gw2 sA; omega)
  rcases kd with e | e | e | e | e | e
  · refine ⟨_, rfl, _, _, 0, _, rfl, rfl, SqL.of hp2, rfl, _, _, rfl, rfl, (by show (0 : Int) < _; decide), tk, _, _, _, rfl, rfl, htk2, (by rw [e]; rfl), ?_⟩
    refine ⟨_, rfl, rfl, _, rfl, iteT' (by show decide (V.str (Str.ofString "room") = V.str _) = true; decide +kernel) ?_⟩
    refine ⟨_, rfl, _, rfl, _, _, 1, _, rfl, rfl, SqL.of hp2, rfl, _, rfl, ac, CW, dx, _, _, rfl, gw2, T.c_World.cl, T.n_World_passes, lk_World_passes, t3, x3, rfl, .inr (Same.tup stk j3), _, _, rfl, rfl, p3, sz2_, fun v hv => ?_⟩
    refine q v (.room kp) _ (sA.trans (same_new hv _)) ⟨by show kp < W.pass.length; (clear T D_law_draws B hr wg hW q s1 np hl hp gw j0 q0 j1 q1 j2 q2 j3 q3 l0 l1 nS nT nP hh p3 p1 p0 hz ekt bkt eks bks ekm bkm ek0 bk0 pd ek1 bk1 mins1 htk stk hp2 htk2 gw2 sA e hv; omega), fun m hm => (nomatch hm), True.intro⟩ (SqT.of ?_)
    rw [upd_same]
    show some (HO.tup [.str "room", .int (d1 % (x3.length : Int))]) = _
    rw [ekp]
    rfl
  · refine ⟨_, rfl, _, _, 0, _, rfl, rfl, SqL.of hp2, rfl, _, _, rfl, rfl, (by show (0 : Int) < _; decide), tk, _, _, _, rfl, rfl, htk2, (by rw [e]; rfl), ?_⟩
    refine ⟨_, rfl, rfl, _, rfl, iteF' (by show decide (V.str (Str.ofString "station") = V.str _) = false; decide +kernel) ?_⟩
    refine ⟨_, rfl, rfl, _, rfl, iteT' (by show decide (V.str (Str.ofString "station") = V.str _) = true; decide +kernel) ?_⟩
    refine ⟨_, rfl, _, rfl, _, _, 1, _, rfl, rfl, SqL.of hp2, rfl, _, rfl, ac, CW, dx, _, _, rfl, gw2, T.c_World.cl, T.n_World_stations, lk_World_stations, t1, x1, rfl, .inr (Same.tup stk j1), _, _, rfl, rfl, p1, _, rfl, _, _, 2, _, rfl, rfl, SqL.of hp2, rfl, _, rfl, ac, CW, dx, _, _, rfl, gw2, T.c_World.cl, T.n_World_horizon, lk_World_horizon, _, _, rfl, rfl, hz, (by show 3 ≤ sizeLine; decide), fun v hv => ?_⟩
    refine q v (.sta kt km) _ (sA.trans (same_new hv _)) ⟨by show kt < W.stas.length; (clear T D_law_draws B hr wg hW q s1 np hl hp gw j0 q0 j1 q1 j2 q2 j3 q3 l0 l3 nS nT nP hh p3 p1 p0 hz ekp bkp eks bks ekm bkm ek0 bk0 pd ek1 bk1 mins1 htk stk hp2 htk2 gw2 sA e hv; omega), mins1, True.intro⟩ (SqT.of ?_)
    rw [upd_same]
    show some (HO.tup [.str "station", .int (d1 % (x1.length : Int)), .int (d2 % W.horizon)]) = _
    rw [ekt, ekm]
    rfl
  · refine ⟨_, rfl, _, _, 0, _, rfl, rfl, SqL.of hp2, rfl, _, _, rfl, rfl, (by show (0 : Int) < _; decide), tk, _, _, _, rfl, rfl, htk2, (by rw [e]; rfl), ?_⟩
    refine ⟨_, rfl, rfl, _, rfl, iteF' (by show decide (V.str (Str.ofString "satellite") = V.str _) = false; decide +kernel) ?_⟩
    refine ⟨_, rfl, rfl, _, rfl, iteF' (by show decide (V.str (Str.ofString "satellite") = V.str _) = false; decide +kernel) ?_⟩
    refine ⟨_, rfl, _, _, 1, _, rfl, rfl, SqL.of hp2, rfl, _, rfl, ac, CW, dx, _, _, rfl, gw2, T.c_World.cl, T.n_World_satellites, lk_World_satellites, t0, x0, rfl, .inr (Same.tup stk j0), _, _, rfl, rfl, p0, ?_⟩
    refine ⟨_, rfl, _, _, 2, _, rfl, rfl, SqL.of hp2, rfl, _, rfl, ac, CW, dx, _, _, rfl, gw2, T.c_World.cl, T.n_World_horizon, lk_World_horizon, _, _, rfl, rfl, hz, ?_⟩
    refine ⟨_, rfl, rfl, _, rfl, iteT' (by show (!decide (V.str (Str.ofString "satellite") = V.str _)) = true; decide +kernel) ?_⟩
    refine ⟨_, rfl, _, rfl, _, rfl, (by show 3 ≤ sizeLine; decide), fun v hv => ?_⟩
    refine q v (.sat ks km) _ (sA.trans (same_new hv _)) ⟨by show ks < W.sats.length; (clear T D_law_draws B hr wg hW q s1 np hl hp gw j0 q0 j1 q1 j2 q2 j3 q3 l1 l3 nS nT nP hh p3 p1 p0 hz ekp bkp ekt bkt ekm bkm ek0 bk0 pd ek1 bk1 mins1 htk stk hp2 htk2 gw2 sA e hv; omega), mins1, True.intro⟩ (SqT.of ?_)
    rw [upd_same]
    show some (HO.tup [.str "satellite", .int (d1 % (x0.length : Int)), .int (d2 % W.horizon)]) = _
    rw [eks, ekm]
    rfl
  · refine ⟨_, rfl, _, _, 0, _, rfl, rfl, SqL.of hp2, rfl, _, _, rfl, rfl, (by show (0 : Int) < _; decide), tk, _, _, _, rfl, rfl, htk2, (by rw [e]; rfl), ?_⟩
    refine ⟨_, rfl, rfl, _, rfl, iteF' (by show decide (V.str (Str.ofString "store") = V.str _) = false; decide +kernel) ?_⟩
    refine ⟨_, rfl, rfl, _, rfl, iteF' (by show decide (V.str (Str.ofString "store") = V.str _) = false; decide +kernel) ?_⟩
    refine ⟨_, rfl, _, _, 1, _, rfl, rfl, SqL.of hp2, rfl, _, rfl, ac, CW, dx, _, _, rfl, gw2, T.c_World.cl, T.n_World_satellites, lk_World_satellites, t0, x0, rfl, .inr (Same.tup stk j0), _, _, rfl, rfl, p0, ?_⟩
    refine ⟨_, rfl, _, _, 2, _, rfl, rfl, SqL.of hp2, rfl, _, rfl, ac, CW, dx, _, _, rfl, gw2, T.c_World.cl, T.n_World_horizon, lk_World_horizon, _, _, rfl, rfl, hz, ?_⟩
    refine ⟨_, rfl, rfl, _, rfl, iteT' (by show (!decide (V.str (Str.ofString "store") = V.str _)) = true; decide +kernel) ?_⟩
    refine ⟨_, rfl, _, rfl, _, rfl, (by show 3 ≤ sizeLine; decide), fun v hv => ?_⟩
    refine q v (.store ks km) _ (sA.trans (same_new hv _)) ⟨by show ks < W.sats.length; (clear T D_law_draws B hr wg hW q s1 np hl hp gw j0 q0 j1 q1 j2 q2 j3 q3 l1 l3 nS nT nP hh p3 p1 p0 hz ekp bkp ekt bkt ekm bkm ek0 bk0 pd ek1 bk1 mins1 htk stk hp2 htk2 gw2 sA e hv; omega), mins1, True.intro⟩ (SqT.of ?_)
    rw [upd_same]
    show some (HO.tup [.str "store", .int (d1 % (x0.length : Int)), .int (d2 % W.horizon)]) = _
    rw [eks, ekm]
    rfl
  · refine ⟨_, rfl, _, _, 0, _, rfl, rfl, SqL.of hp2, rfl, _, _, rfl, rfl, (by show (0 : Int) < _; decide), tk, _, _, _, rfl, rfl, htk2, (by rw [e]; rfl), ?_⟩
    refine ⟨_, rfl, rfl, _, rfl, iteF' (by show decide (V.str (Str.ofString "energy") = V.str _) = false; decide +kernel) ?_⟩
    refine ⟨_, rfl, rfl, _, rfl, iteF' (by show decide (V.str (Str.ofString "energy") = V.str _) = false; decide +kernel) ?_⟩
    refine ⟨_, rfl, _, _, 1, _, rfl, rfl, SqL.of hp2, rfl, _, rfl, ac, CW, dx, _, _, rfl, gw2, T.c_World.cl, T.n_World_satellites, lk_World_satellites, t0, x0, rfl, .inr (Same.tup stk j0), _, _, rfl, rfl, p0, ?_⟩
    refine ⟨_, rfl, _, _, 2, _, rfl, rfl, SqL.of hp2, rfl, _, rfl, ac, CW, dx, _, _, rfl, gw2, T.c_World.cl, T.n_World_horizon, lk_World_horizon, _, _, rfl, rfl, hz, ?_⟩
    refine ⟨_, rfl, rfl, _, rfl, iteT' (by show (!decide (V.str (Str.ofString "energy") = V.str _)) = true; decide +kernel) ?_⟩
    refine ⟨_, rfl, _, rfl, _, rfl, (by show 3 ≤ sizeLine; decide), fun v hv => ?_⟩
    refine q v (.energy ks km) _ (sA.trans (same_new hv _)) ⟨by show ks < W.sats.length; (clear T D_law_draws B hr wg hW q s1 np hl hp gw j0 q0 j1 q1 j2 q2 j3 q3 l1 l3 nS nT nP hh p3 p1 p0 hz ekp bkp ekt bkt ekm bkm ek0 bk0 pd ek1 bk1 mins1 htk stk hp2 htk2 gw2 sA e hv; omega), mins1, True.intro⟩ (SqT.of ?_)
    rw [upd_same]
    show some (HO.tup [.str "energy", .int (d1 % (x0.length : Int)), .int (d2 % W.horizon)]) = _
    rw [eks, ekm]
    rfl
  · refine ⟨_, rfl, _, _, 0, _, rfl, rfl, SqL.of hp2, rfl, _, _, rfl, rfl, (by show (0 : Int) < _; decide), tk, _, _, _, rfl, rfl, htk2, (by rw [e]; rfl), ?_⟩
    refine ⟨_, rfl, rfl, _, rfl, iteF' (by show decide (V.str (Str.ofString "energy from") = V.str _) = false; decide +kernel) ?_⟩
    refine ⟨_, rfl, rfl, _, rfl, iteF' (by show decide (V.str (Str.ofString "energy from") = V.str _) = false; decide +kernel) ?_⟩
    refine ⟨_, rfl, _, _, 1, _, rfl, rfl, SqL.of hp2, rfl, _, rfl, ac, CW, dx, _, _, rfl, gw2, T.c_World.cl, T.n_World_satellites, lk_World_satellites, t0, x0, rfl, .inr (Same.tup stk j0), _, _, rfl, rfl, p0, ?_⟩
    refine ⟨_, rfl, _, _, 2, _, rfl, rfl, SqL.of hp2, rfl, _, rfl, ac, CW, dx, _, _, rfl, gw2, T.c_World.cl, T.n_World_horizon, lk_World_horizon, _, _, rfl, rfl, hz, ?_⟩
    refine ⟨_, rfl, rfl, _, rfl, iteF' (by show (!decide (V.str (Str.ofString "energy from") = V.str _)) = false; decide +kernel) ?_⟩
    refine ⟨_, rfl, _, _, 3, _, rfl, rfl, SqL.of hp2, rfl, _, rfl, ac, CW, dx, _, _, rfl, gw2, T.c_World.cl, T.n_World_horizon, lk_World_horizon, _, _, rfl, rfl, _, _, rfl, rfl, (by show 0 < W.horizon - 1; (clear T D_law_draws B hr wg hW q s1 np hl hp gw j0 q0 j1 q1 j2 q2 j3 q3 l0 l1 l3 nS nT nP p3 p1 p0 hz ekp bkp ekt bkt eks bks ekm bkm ek0 bk0 pd ek1 bk1 mins1 htk stk hp2 htk2 gw2 sA e; omega)), ?_⟩
    refine ⟨_, rfl, _, rfl, _, rfl, _, rfl, _, _, rfl, rfl, _, rfl, _, _, 2, _, rfl, rfl, SqL.of hp2, rfl, _, rfl, ac, CW, dx, _, _, rfl, gw2, T.c_World.cl, T.n_World_horizon, lk_World_horizon, _, _, rfl, rfl, _, rfl, _, _, rfl, rfl, _, _, rfl, rfl, (by show 0 < W.horizon - 1 - d3 % (W.horizon - 1); rw [ek0]; exact pd), _, _, rfl, rfl, (by show 4 ≤ sizeLine; decide), fun v hv => ?_⟩
    refine q v (.efrom ks k0 (k0 + 1 + k1)) _ (sA.trans (same_new hv _)) ⟨by show ks < W.sats.length; (clear T D_law_draws B hr wg hW q s1 np hl hp gw j0 q0 j1 q1 j2 q2 j3 q3 l1 l3 nS nT nP hh p3 p1 p0 hz ekp bkp ekt bkt ekm bkm ek0 bk0 pd ek1 bk1 mins1 htk stk hp2 htk2 gw2 sA e hv; omega), fun m hm => ?_, by show k0 < k0 + 1 + k1; (clear T D_law_draws B hr wg hW q s1 np hl hp gw j0 q0 j1 q1 j2 q2 j3 q3 l0 l1 l3 nS nT nP hh p3 p1 p0 hz ekp bkp ekt bkt eks bks ekm bkm ek0 bk0 pd ek1 bk1 mins1 htk stk hp2 htk2 gw2 sA e hv; omega)⟩ (SqT.of ?_)
    · rcases List.mem_cons.mp hm with rfl | hm
      · (clear T D_law_draws B hr wg hW q s1 np hl hp gw j0 q0 j1 q1 j2 q2 j3 q3 l0 l1 l3 nS nT nP p3 p1 p0 hz ekp bkp ekt bkt eks bks ekm bkm mins1 htk stk hp2 htk2 gw2 sA e hv pd ek1 bk1 hm; omega)
      · rw [List.mem_singleton.mp hm]
        (clear T D_law_draws B hr wg hW q s1 np hl hp gw j0 q0 j1 q1 j2 q2 j3 q3 l0 l1 l3 nS nT nP p3 p1 p0 hz ekp bkp ekt bkt eks bks ekm bkm ek0 bk0 pd mins1 htk stk hp2 htk2 gw2 sA e hv hm; omega)
    · rw [upd_same]
      show some (HO.tup [.str "energy from", .int (d1 % (x0.length : Int)), .int (d3 % (W.horizon - 1)), .int (d3 % (W.horizon - 1) + 1 + d2 % (W.horizon - 1 - d3 % (W.horizon - 1)))]) = _
      rw [eks, ek0, ek1, show (k0 : Int) + 1 + (k1 : Int) = ((k0 + 1 + k1 : Nat) : Int) by (clear T D_law_draws B hr wg hW q s1 np hl hp gw j0 q0 j1 q1 j2 q2 j3 q3 l0 l1 l3 nS nT nP hh p3 p1 p0 hz ekp bkp ekt bkt eks bks ekm bkm ek0 bk0 pd ek1 bk1 mins1 htk stk hp2 htk2 gw2 sA e hv; omega)]
      rfl
end
end DP
namespace DP
open PySem PySem.Spec PyProof.Rows L2
abbrev s__law_recording_part : Stmt := topS 91
theorem sc__law_recording_part : FnScope ["world", "row", "r", "option", "recording", "start", "p"] ["world", "row", "r", "option"] (defScope s__law_recording_part) := ⟨rfl, rfl, rfl, by decide +kernel, rfl, by decide +kernel, by decide +kernel⟩
abbrev s__law_pass_part : Stmt := topS 92
theorem sc__law_pass_part : FnScope ["world", "row", "p", "chance", "end"] ["world", "row", "p"] (defScope s__law_pass_part) := ⟨rfl, rfl, rfl, by decide +kernel, rfl, by decide +kernel, by decide +kernel⟩
abbrev s__law_right : Stmt := topS 93
theorem sc__law_right : FnScope ["world", "row", "satellite", "first", "right", "m", "span"] ["world", "row"] (defScope s__law_right) := ⟨rfl, rfl, rfl, by decide +kernel, rfl, by decide +kernel, by decide +kernel⟩
theorem op_mul_ib {X : Cx} : OpR X (binaryOp .Mult) (fun x y H Q => ∃ i k, x = .int i ∧ y = .bl k ∧ Q (.int (i * if k = true then (1 : Int) else 0)) H) := by
  intro pins s σ H x y v u Q I rx ry h
  obtain ⟨i, k, rfl, rfl, q⟩ := h
  obtain ⟨t, rfl⟩ := rx
  cases ry
  exact PySem.IntBool.mul_int_bool ⟨.int (i * if k = true then (1 : Int) else 0), H, I.tok _, ⟨_, rfl⟩, q⟩
theorem mul_ib {a : Int} {k : Bool} : (a * if k = true then (1 : Int) else 0) = if k = true then a else 0 := by
  cases k with
  | true => exact Int.mul_one a
  | false => exact Int.mul_zero a
theorem mul_ib2 {a : Int} {p : Prop} [Decidable p] : (a * if decide p = true then (1 : Int) else 0) = if p then a else 0 := by
  by_cases c : p
  · rw [if_pos c, if_pos (decide_eq_true c), Int.mul_one]
  · rw [if_neg c, if_neg (fun h => c (of_decide_eq_true h)), Int.mul_zero]
theorem mul_i0 {a : Int} : (a * if (false : Bool) = true then (1 : Int) else 0) = 0 := Int.mul_zero a
section
variable {P : Program} {w : World} {K : PySem.W.Frag} {mg : Str → Option Value} {base : Heap} {CL CS CT CR CP CW aS aR fS fT fR fP aM : Addr}
def spLRec (K : PySem.W.Frag) (CS CT CR CP CW : Addr) : Sp := fun vs H Q _ => ∃ (ac t u : Addr) (W : WorldD) (row : RowD) (r : Nat) (z : RecD) (st p : Int), vs = [.ref ac, .ref t, .int (r : Int), .ref u] ∧ WorldAt K CS CT CR CP CW H ac W ∧ SqT K H t (rowV row) ∧ RowOk W row ∧ W.recs[r]? = some z ∧ SqT K H u [.int st, .int p] ∧ 0 ≤ p ∧ p < (W.pass.length : Int) ∧ Q (.int (recPart W row z st p)) H
set_option maxHeartbeats 8000000 in
theorem d_lrec (T : TxtW K mg CL CS CT CR CP CW aS aR fS fT fR fP) (A : At K mg "_law_recording_part" s__law_recording_part ["world", "row", "r", "option"]) : DefOk P w K mg base CX0 1 "_law_recording_part" ["world", "row", "r", "option"] (spLRec K CS CT CR CP CW) := by
  have B := T.L.B
  refine A.ok sc__law_recording_part (fun vs H Q E h => ?_) (fun f cdv A outer s H vs Q E hr h => ?_)
  · obtain ⟨ac, t, u, W, row, r, z, st, p, rfl, _⟩ := h
    rfl
  obtain ⟨ac, t, u, W, row, r, z, st, p, rfl, hW, ht, rok, hz, hu, p0, p1, q⟩ := h
  refine ⟨_, pss_cons (ps_set (i := 4) sc__law_recording_part.nd rfl (Or.inl rfl) (pe_ix ix_tup (pe_fld (pv 0) rfl) (pv 2) (fun _ _ => rfl)))
  (pss_cons (ps_asg (pv 3) (pg_tup (by rfl) (pgs_cons (pg_name (i := 5) sc__law_recording_part.nd rfl (Or.inl rfl)) (pgs_cons (pg_name (i := 6) sc__law_recording_part.nd rfl (Or.inl rfl)) (pgs_nil)))))
  (pss_cons (ps_if (pt_cmpR op_eq (pe_ix ix_tup (pv 1) pe_int (fun _ _ => rfl)) pe_str (nomark _))
      (pss_one (ps_ret (pe_op op_mul_ib (pe_fld (pv 4) rfl) (pe_cmpR op_eq (pe_ix ix_tup (pv 1) pe_int (fun _ _ => rfl)) (pv 6) (nomark _)))))
      (pss_nil))
  (pss_cons (ps_if (PW.pt (pw_or (pt_cmpR op_eq (pe_ix ix_tup (pv 1) pe_int (fun _ _ => rfl)) pe_str (nomark _)) (pw_or1 (pt_cmpR op_ne (pe_ix ix_tup (pv 1) pe_int (fun _ _ => rfl)) (pe_fld (pv 4) rfl) (nomark _)))))
      (pss_one (ps_ret pe_int))
      (pss_nil))
  (pss_cons (ps_if (pt_cmpR op_eq (pe_ix ix_tup (pv 1) pe_int (fun _ _ => rfl)) pe_str (nomark _))
      (pss_one (ps_ret (pe_callTy (call_int1) (by rfl) B.int (by decide +kernel) (pa_cons (pe_chain op_le op_lt (pv 5) (pe_ix ix_tup (pv 1) pe_int (fun _ _ => rfl)) (pe_op op_add (pe_op op_add (pv 5) (pe_fld (pv 4) rfl)) (pe_fld (pe_ix ix_tup (pe_fld (pv 0) rfl) (pe_ix ix_tup (pv 1) pe_int (fun _ _ => rfl)) (fun _ _ => rfl)) rfl))) pa_nil))))
      (pss_nil))
  (pss_cons (ps_if (pt_cmpR op_eq (pe_ix ix_tup (pv 1) pe_int (fun _ _ => rfl)) pe_str (nomark _))
      (pss_one (ps_ret (pe_op op_mul_ib (pe_fld (pv 4) rfl) (pe_chain op_le op_lt (pv 5) (pe_ix ix_tup (pv 1) pe_int (fun _ _ => rfl)) (pe_ix ix_tup (pe_fld (pe_ix ix_tup (pe_fld (pv 0) rfl) (pv 6) (fun _ _ => rfl)) rfl) pe_int (fun _ _ => rfl))))))
      (pss_nil))
  (pss_cons (ps_if (pt_cmpR op_eq (pe_ix ix_tup (pv 1) pe_int (fun _ _ => rfl)) pe_str (nomark _))
      (pss_one (ps_ret (pe_op op_mul_ib (pe_fld (pv 4) rfl) (pe_cmpR op_le (pv 5) (pe_ix ix_tup (pv 1) pe_int (fun _ _ => rfl)) (nomark _)))))
      (pss_nil))
  (pss_one (ps_ret (pe_op op_mul_ib (pe_fld (pv 4) rfl) (pe_chain op_lt op_le (pe_ix ix_tup (pv 1) pe_int (fun _ _ => rfl)) (pv 5) (pe_ix ix_tup (pv 1) pe_int (fun _ _ => rfl))))))))))))
    , ?_⟩
  obtain ⟨dx, t0, t1, t2, t3, x0, x1, x2, x3, gw, j0, q0, j1, q1, j2, q2, j3, q3⟩ := hW.ex
  obtain ⟨ob, od, hob, o1⟩ := rw_rec q2 hz
  obtain ⟨pk, ek⟩ : ∃ pk : Nat, p = (pk : Int) := ⟨p.toNat, by omega⟩
  subst ek
  obtain ⟨y, hy⟩ : ∃ y, W.pass[pk]? = some y := ⟨_, List.getElem?_eq_getElem (by omega)⟩
  obtain ⟨pb, pd, ts, hpb, c1, c2⟩ := rw_pas q3 hy
  refine ⟨_, rfl, ac, CW, dx, _, _, rfl, gw, T.c_World.cl, T.n_World_recordings, lk_World_recordings, _, rfl, t2, x2, (r : Int), _, rfl, rfl, j2, atI_nat hob, ?_⟩
  refine ⟨_, rfl, u, _, rfl, hu, rfl, _, _, rfl, _, _, rfl, rfl, ?_⟩
  cases row with
  | room k =>
    refine ⟨_, rfl, t, _, 0, _, rfl, rfl, ht, rfl, rfl, _, rfl, iteT' (by show decide (V.str (Str.ofString "room") = V.str _) = true; decide +kernel) ?_⟩
    refine ⟨_, rfl, ob, CR, od, _, _, rfl, o1, T.c_Recording.cl, T.n_Recording_size, lk_Recording_size, _, rfl, t, _, 1, _, rfl, rfl, ht, rfl, _, rfl, rfl, _, _, rfl, rfl, ?_⟩
    have e9 : (z.size * if decide (V.int ((k : Nat) : Int) = V.int (pk : Int)) = true then (1 : Int) else 0) = recPart W (.room k) z st (pk : Int) := by
      rw [mul_ib]
      by_cases c : (pk : Int) = (k : Int)
      · rw [show recPart W (.room k) z st (pk : Int) = z.size from if_pos c, if_pos (decide_eq_true (by rw [c]))]
      · rw [show recPart W (.room k) z st (pk : Int) = 0 from if_neg c, if_neg (fun h => c (V.int.inj (of_decide_eq_true h)).symm)]
    show Q (V.int (z.size * if decide (V.int ((k : Nat) : Int) = V.int (pk : Int)) = true then (1 : Int) else 0)) H
    rw [e9]
    exact q
  | sta s m =>
    refine ⟨_, rfl, t, _, 0, _, rfl, rfl, ht, rfl, rfl, _, rfl, iteF' (by show decide (V.str (Str.ofString "station") = V.str _) = false; decide +kernel) ?_⟩
    exact ⟨_, rfl, t, _, 0, _, rfl, rfl, ht, rfl, rfl, _, rfl, iteT' (by show decide (V.str (Str.ofString "station") = V.str _) = true; decide +kernel) (iteT' rfl q)⟩
  | sat s m =>
    refine ⟨_, rfl, t, _, 0, _, rfl, rfl, ht, rfl, rfl, _, rfl, iteF' (by show decide (V.str (Str.ofString "satellite") = V.str _) = false; decide +kernel) ?_⟩
    refine ⟨_, rfl, t, _, 0, _, rfl, rfl, ht, rfl, rfl, _, rfl, iteF' (by show decide (V.str (Str.ofString "satellite") = V.str _) = false; decide +kernel) ?_⟩
    refine ⟨_, rfl, t, _, 1, _, rfl, rfl, ht, rfl, _, rfl, ob, CR, od, _, _, rfl, o1, T.c_Recording.cl, T.n_Recording_satellite, lk_Recording_satellite, rfl, _, rfl, ite2 (fun k1 => ?_) (fun k1 => ?_)⟩
    · rw [show recPart W (.sat s m) z st (pk : Int) = 0 from if_neg (fun h => sneg k1 h.symm)] at q
      exact q
    · have es := (spos k1).symm
      obtain ⟨zs, hzs⟩ : ∃ z, W.sats[s]? = some z := ⟨_, List.getElem?_eq_getElem rok.num⟩
      obtain ⟨sb, sd, tl, ls, hsb, g1, g2, g3⟩ := rw_sat q0 hzs
      refine ⟨_, rfl, t, _, 0, _, rfl, rfl, ht, rfl, rfl, _, rfl, iteT' (by show decide (V.str (Str.ofString "satellite") = V.str _) = true; decide +kernel) ?_⟩
      rw [show recPart W (.sat s m) z st (pk : Int) = if inM m st (st + z.length + rwSet W s) = true then 1 else 0 from if_pos es, rwSet_of hzs] at q
      refine ⟨_, rfl, _, rfl, t, _, 2, _, rfl, rfl, ht, rfl, _, _, rfl, rfl, _, rfl, ite2 (fun k2 => ?_) (fun k2 => ?_)⟩
      · refine ⟨_, rfl, _, rfl, ob, CR, od, _, _, rfl, o1, T.c_Recording.cl, T.n_Recording_length, lk_Recording_length, _, _, rfl, rfl, _, rfl, ac, CW, dx, _, _, rfl, gw, T.c_World.cl, T.n_World_satellites, lk_World_satellites, _, rfl, t, _, 1, _, rfl, rfl, ht, rfl, t0, x0, (s : Int), _, rfl, rfl, j0, atI_nat hsb, sb, CS, sd, _, _, rfl, g1, T.c_Satellite.cl, T.n_Satellite_settle, lk_Satellite_settle, _, _, rfl, rfl, _, _, rfl, rfl, .inr ⟨_, rfl, ?_⟩⟩
        unfold inM at q
        rw [show decide (st ≤ (m : Int)) = true from k2, Bool.true_and] at q
        exact q
      · refine .inr ⟨_, rfl, ?_⟩
        unfold inM at q
        rw [show decide (st ≤ (m : Int)) = false from Bool.eq_false_iff.mpr k2, Bool.false_and] at q
        exact q
  | store s m =>
    refine ⟨_, rfl, t, _, 0, _, rfl, rfl, ht, rfl, rfl, _, rfl, iteF' (by show decide (V.str (Str.ofString "store") = V.str _) = false; decide +kernel) ?_⟩
    refine ⟨_, rfl, t, _, 0, _, rfl, rfl, ht, rfl, rfl, _, rfl, iteF' (by show decide (V.str (Str.ofString "store") = V.str _) = false; decide +kernel) ?_⟩
    refine ⟨_, rfl, t, _, 1, _, rfl, rfl, ht, rfl, _, rfl, ob, CR, od, _, _, rfl, o1, T.c_Recording.cl, T.n_Recording_satellite, lk_Recording_satellite, rfl, _, rfl, ite2 (fun k1 => ?_) (fun k1 => ?_)⟩
    · rw [show recPart W (.store s m) z st (pk : Int) = 0 from if_neg (fun h => sneg k1 h.symm)] at q
      exact q
    · have es := (spos k1).symm
      refine ⟨_, rfl, t, _, 0, _, rfl, rfl, ht, rfl, rfl, _, rfl, iteF' (by show decide (V.str (Str.ofString "store") = V.str _) = false; decide +kernel) ?_⟩
      refine ⟨_, rfl, t, _, 0, _, rfl, rfl, ht, rfl, rfl, _, rfl, iteT' (by show decide (V.str (Str.ofString "store") = V.str _) = true; decide +kernel) ?_⟩
      rw [show recPart W (.store s m) z st (pk : Int) = if inM m st (rwFin W (pk : Int)) = true then z.size else 0 from if_pos es, rwFin_of hy] at q
      refine ⟨_, rfl, ob, CR, od, _, _, rfl, o1, T.c_Recording.cl, T.n_Recording_size, lk_Recording_size, _, rfl, _, rfl, t, _, 2, _, rfl, rfl, ht, rfl, _, _, rfl, rfl, _, rfl, ite2 (fun k2 => ?_) (fun k2 => ?_)⟩
      · refine ⟨_, rfl, ac, CW, dx, _, _, rfl, gw, T.c_World.cl, T.n_World_passes, lk_World_passes, _, rfl, t3, x3, (pk : Int), _, rfl, rfl, j3, atI_nat hpb, pb, CP, pd, _, _, rfl, c1, T.c_Pass.cl, T.n_Pass_span, lk_Pass_span, ts, _, 1, _, rfl, rfl, c2, rfl, _, _, rfl, rfl, _, _, rfl, rfl, ?_⟩
        unfold inM at q
        rw [show decide (st ≤ (m : Int)) = true from k2, Bool.true_and, ← mul_ib] at q
        exact q
      · refine ⟨_, _, rfl, rfl, ?_⟩
        unfold inM at q
        rw [show decide (st ≤ (m : Int)) = false from Bool.eq_false_iff.mpr k2, Bool.false_and, ← mul_ib] at q
        exact q
  | energy s m =>
    refine ⟨_, rfl, t, _, 0, _, rfl, rfl, ht, rfl, rfl, _, rfl, iteF' (by show decide (V.str (Str.ofString "energy") = V.str _) = false; decide +kernel) ?_⟩
    refine ⟨_, rfl, t, _, 0, _, rfl, rfl, ht, rfl, rfl, _, rfl, iteF' (by show decide (V.str (Str.ofString "energy") = V.str _) = false; decide +kernel) ?_⟩
    refine ⟨_, rfl, t, _, 1, _, rfl, rfl, ht, rfl, _, rfl, ob, CR, od, _, _, rfl, o1, T.c_Recording.cl, T.n_Recording_satellite, lk_Recording_satellite, rfl, _, rfl, ite2 (fun k1 => ?_) (fun k1 => ?_)⟩
    · rw [show recPart W (.energy s m) z st (pk : Int) = 0 from if_neg (fun h => sneg k1 h.symm)] at q
      exact q
    · have es := (spos k1).symm
      refine ⟨_, rfl, t, _, 0, _, rfl, rfl, ht, rfl, rfl, _, rfl, iteF' (by show decide (V.str (Str.ofString "energy") = V.str _) = false; decide +kernel) ?_⟩
      refine ⟨_, rfl, t, _, 0, _, rfl, rfl, ht, rfl, rfl, _, rfl, iteF' (by show decide (V.str (Str.ofString "energy") = V.str _) = false; decide +kernel) ?_⟩
      refine ⟨_, rfl, t, _, 0, _, rfl, rfl, ht, rfl, rfl, _, rfl, iteT' (by show decide (V.str (Str.ofString "energy") = V.str _) = true; decide +kernel) ?_⟩
      rw [show recPart W (.energy s m) z st (pk : Int) = if st ≤ (m : Int) then z.energy else 0 from if_pos es] at q
      refine ⟨_, rfl, ob, CR, od, _, _, rfl, o1, T.c_Recording.cl, T.n_Recording_energy, lk_Recording_energy, _, rfl, _, rfl, t, _, 2, _, rfl, rfl, ht, rfl, _, _, rfl, rfl, _, _, rfl, rfl, ?_⟩
      rw [← mul_ib2] at q
      exact q
  | efrom s m0 m =>
    refine ⟨_, rfl, t, _, 0, _, rfl, rfl, ht, rfl, rfl, _, rfl, iteF' (by show decide (V.str (Str.ofString "energy from") = V.str _) = false; decide +kernel) ?_⟩
    refine ⟨_, rfl, t, _, 0, _, rfl, rfl, ht, rfl, rfl, _, rfl, iteF' (by show decide (V.str (Str.ofString "energy from") = V.str _) = false; decide +kernel) ?_⟩
    refine ⟨_, rfl, t, _, 1, _, rfl, rfl, ht, rfl, _, rfl, ob, CR, od, _, _, rfl, o1, T.c_Recording.cl, T.n_Recording_satellite, lk_Recording_satellite, rfl, _, rfl, ite2 (fun k1 => ?_) (fun k1 => ?_)⟩
    · rw [show recPart W (.efrom s m0 m) z st (pk : Int) = 0 from if_neg (fun h => sneg k1 h.symm)] at q
      exact q
    · have es := (spos k1).symm
      refine ⟨_, rfl, t, _, 0, _, rfl, rfl, ht, rfl, rfl, _, rfl, iteF' (by show decide (V.str (Str.ofString "energy from") = V.str _) = false; decide +kernel) ?_⟩
      refine ⟨_, rfl, t, _, 0, _, rfl, rfl, ht, rfl, rfl, _, rfl, iteF' (by show decide (V.str (Str.ofString "energy from") = V.str _) = false; decide +kernel) ?_⟩
      refine ⟨_, rfl, t, _, 0, _, rfl, rfl, ht, rfl, rfl, _, rfl, iteF' (by show decide (V.str (Str.ofString "energy from") = V.str _) = false; decide +kernel) ?_⟩
      rw [show recPart W (.efrom s m0 m) z st (pk : Int) = if st ≤ (m : Int) ∧ (m0 : Int) < st then z.energy else 0 from if_pos es] at q
      refine ⟨_, rfl, ob, CR, od, _, _, rfl, o1, T.c_Recording.cl, T.n_Recording_energy, lk_Recording_energy, _, rfl, t, _, 2, _, rfl, rfl, ht, rfl, _, rfl, _, _, rfl, rfl, _, rfl, ite2 (fun k2 => ?_) (fun k2 => ?_)⟩
      · have k2 : (m0 : Int) < st := of_decide_eq_true k2
        refine ⟨_, rfl, t, _, 3, _, rfl, rfl, ht, rfl, _, _, rfl, rfl, _, _, rfl, rfl, ?_⟩
        rw [show (if st ≤ (m : Int) ∧ (m0 : Int) < st then z.energy else 0) = if st ≤ (m : Int) then z.energy else 0 from by
          by_cases c : st ≤ (m : Int)
          · rw [if_pos c, if_pos ⟨c, k2⟩]
          · rw [if_neg c, if_neg (fun h => c h.1)], ← mul_ib2] at q
        exact q
      · refine ⟨_, _, rfl, rfl, ?_⟩
        rw [if_neg (fun h => k2 (decide_eq_true h.2)), ← mul_i0 (a := z.energy)] at q
        exact q
def spLPas (K : PySem.W.Frag) (CS CT CR CP CW : Addr) : Sp := fun vs H Q _ => ∃ (ac t : Addr) (W : WorldD) (row : RowD) (k : Nat) (z : PasD), vs = [.ref ac, .ref t, .int (k : Int)] ∧ WorldOk W ∧ WorldAt K CS CT CR CP CW H ac W ∧ SqT K H t (rowV row) ∧ RowOk W row ∧ W.pass[k]? = some z ∧ Q (.int (pasPart W row k z)) H
set_option maxHeartbeats 8000000 in
theorem d_lpas (T : TxtW K mg CL CS CT CR CP CW aS aR fS fT fR fP) (A : At K mg "_law_pass_part" s__law_pass_part ["world", "row", "p"]) : DefOk P w K mg base CX0 1 "_law_pass_part" ["world", "row", "p"] (spLPas K CS CT CR CP CW) := by
  have B := T.L.B
  refine A.ok sc__law_pass_part (fun vs H Q E h => ?_) (fun f cdv A outer s H vs Q E hr h => ?_)
  · obtain ⟨ac, t, W, row, k, z, rfl, _⟩ := h
    rfl
  obtain ⟨ac, t, W, row, k, z, rfl, wok, hW, ht, rok, hz, q⟩ := h
  refine ⟨_, pss_cons (ps_set (i := 3) sc__law_pass_part.nd rfl (Or.inl rfl) (pe_ix ix_tup (pe_fld (pv 0) rfl) (pv 2) (fun _ _ => rfl)))
  (pss_cons (ps_if (pt_cmpR op_eq (pe_ix ix_tup (pv 1) pe_int (fun _ _ => rfl)) pe_str (nomark _))
      (pss_one (ps_ret (pe_op op_mul_ib (pe_un un_neg (pe_fld (pv 3) rfl)) (pe_cmpR op_eq (pe_ix ix_tup (pv 1) pe_int (fun _ _ => rfl)) (pv 2) (nomark _)))))
      (pss_nil))
  (pss_cons (ps_if (pt_cmpR op_eq (pe_ix ix_tup (pv 1) pe_int (fun _ _ => rfl)) pe_str (nomark _))
      (pss_cons (ps_set (i := 4) sc__law_pass_part.nd rfl (Or.inl rfl) (pe_op op_add (pe_ix ix_tup (pe_fld (pv 3) rfl) pe_int (fun _ _ => rfl)) (pe_fld (pe_ix ix_tup (pe_fld (pv 0) rfl) (pe_ix ix_tup (pv 1) pe_int (fun _ _ => rfl)) (fun _ _ => rfl)) rfl)))
      (pss_one (ps_ret (pe_callTy (call_int1) (by rfl) B.int (by decide +kernel) (pa_cons (pe_and (pe_cmpR op_eq (pe_ix ix_tup (pv 1) pe_int (fun _ _ => rfl)) (pe_fld (pv 3) rfl) (nomark _)) (pe_one (pe_chain op_le op_lt (pe_ix ix_tup (pe_fld (pv 3) rfl) pe_int (fun _ _ => rfl)) (pe_ix ix_tup (pv 1) pe_int (fun _ _ => rfl)) (pv 4)))) pa_nil)))))
      (pss_nil))
  (pss_cons (ps_if (PW.pt (pw_or (pt_cmpR op_ne (pe_ix ix_tup (pv 1) pe_int (fun _ _ => rfl)) (pe_fld (pv 3) rfl) (nomark _)) (pw_or1 (pt_cmpR op_eq (pe_ix ix_tup (pv 1) pe_int (fun _ _ => rfl)) pe_str (nomark _)))))
      (pss_one (ps_ret pe_int))
      (pss_nil))
  (pss_cons (ps_if (pt_cmpR op_eq (pe_ix ix_tup (pv 1) pe_int (fun _ _ => rfl)) pe_str (nomark _))
      (pss_one (ps_ret (pe_callTy (call_int1) (by rfl) B.int (by decide +kernel) (pa_cons (pe_chain op_le op_lt (pe_ix ix_tup (pe_fld (pv 3) rfl) pe_int (fun _ _ => rfl)) (pe_ix ix_tup (pv 1) pe_int (fun _ _ => rfl)) (pe_op op_add (pe_ix ix_tup (pe_fld (pv 3) rfl) pe_int (fun _ _ => rfl)) (pe_fld (pe_ix ix_tup (pe_fld (pv 0) rfl) (pe_ix ix_tup (pv 1) pe_int (fun _ _ => rfl)) (fun _ _ => rfl)) rfl))) pa_nil))))
      (pss_nil))
  (pss_cons (ps_if (pt_cmpR op_eq (pe_ix ix_tup (pv 1) pe_int (fun _ _ => rfl)) pe_str (nomark _))
      (pss_one (ps_ret (pe_op op_mul_ib (pe_fld (pv 3) rfl) (pe_cmpR op_le (pe_ix ix_tup (pe_fld (pv 3) rfl) pe_int (fun _ _ => rfl)) (pe_ix ix_tup (pv 1) pe_int (fun _ _ => rfl)) (nomark _)))))
      (pss_nil))
  (pss_one (ps_ret (pe_op op_mul_ib (pe_fld (pv 3) rfl) (pe_chain op_lt op_le (pe_ix ix_tup (pv 1) pe_int (fun _ _ => rfl)) (pe_ix ix_tup (pe_fld (pv 3) rfl) pe_int (fun _ _ => rfl)) (pe_ix ix_tup (pv 1) pe_int (fun _ _ => rfl)))))))))))
    , ?_⟩
  obtain ⟨dx, t0, t1, t2, t3, x0, x1, x2, x3, gw, j0, q0, j1, q1, j2, q2, j3, q3⟩ := hW.ex
  obtain ⟨pb, pd, ts, hpb, c1, c2⟩ := rw_pas q3 hz
  have zok := wok.pass z (List.mem_of_getElem? hz)
  refine ⟨_, rfl, ac, CW, dx, _, _, rfl, gw, T.c_World.cl, T.n_World_passes, lk_World_passes, _, rfl, t3, x3, (k : Int), _, rfl, rfl, j3, atI_nat hpb, ?_⟩
  cases row with
  | room j =>
    refine ⟨_, rfl, t, _, 0, _, rfl, rfl, ht, rfl, rfl, _, rfl, iteT' (by show decide (V.str (Str.ofString "room") = V.str _) = true; decide +kernel) ?_⟩
    refine ⟨_, rfl, pb, CP, pd, _, _, rfl, c1, T.c_Pass.cl, T.n_Pass_room, lk_Pass_room, _, rfl, _, rfl, t, _, 1, _, rfl, rfl, ht, rfl, _, rfl, rfl, _, _, rfl, rfl, ?_⟩
    have e9 : (-z.room * if decide (V.int ((j : Nat) : Int) = V.int (k : Int)) = true then (1 : Int) else 0) = pasPart W (.room j) k z := by
      rw [mul_ib]
      by_cases c : k = j
      · rw [show pasPart W (.room j) k z = -z.room from if_pos c, if_pos (decide_eq_true (by rw [c]))]
      · rw [show pasPart W (.room j) k z = 0 from if_neg c, if_neg (fun h => c (by have := V.int.inj (of_decide_eq_true h); omega))]
    show Q (V.int (-z.room * if decide (V.int ((j : Nat) : Int) = V.int (k : Int)) = true then (1 : Int) else 0)) H
    rw [e9]
    exact q
  | sta s m =>
    refine ⟨_, rfl, t, _, 0, _, rfl, rfl, ht, rfl, rfl, _, rfl, iteF' (by show decide (V.str (Str.ofString "station") = V.str _) = false; decide +kernel) ?_⟩
    refine ⟨_, rfl, t, _, 0, _, rfl, rfl, ht, rfl, rfl, _, rfl, iteT' (by show decide (V.str (Str.ofString "station") = V.str _) = true; decide +kernel) ?_⟩
    obtain ⟨zt, hzt⟩ : ∃ zt, W.stas[s]? = some zt := ⟨_, List.getElem?_eq_getElem rok.num⟩
    obtain ⟨sb, sd, hsb, g1⟩ := rw_sta q1 hzt
    refine ⟨_, rfl, pb, CP, pd, _, _, rfl, c1, T.c_Pass.cl, T.n_Pass_span, lk_Pass_span, ts, _, 1, _, rfl, rfl, c2, rfl, _, rfl, ac, CW, dx, _, _, rfl, gw, T.c_World.cl, T.n_World_stations, lk_World_stations, _, rfl, t, _, 1, _, rfl, rfl, ht, rfl, t1, x1, (s : Int), _, rfl, rfl, j1, atI_nat hsb, sb, CT, sd, _, _, rfl, g1, T.c_Station.cl, T.n_Station_turn, lk_Station_turn, _, _, rfl, rfl, ?_⟩
    refine ⟨_, rfl, t, _, 1, _, rfl, rfl, ht, rfl, _, rfl, pb, CP, pd, _, _, rfl, c1, T.c_Pass.cl, T.n_Pass_station, lk_Pass_station, rfl, _, rfl, ite2 (fun k1 => ?_) (fun k1 => ?_)⟩
    · have es : z.sta = s := by
        have := V.int.inj (of_decide_eq_true k1)
        have : (s : Int) = (z.sta : Int) := this
        omega
      rw [show pasPart W (.sta s m) k z = if inM m z.first (z.fin + rwTurn W s) = true then 1 else 0 from if_pos es, rwTurn_of hzt] at q
      refine ⟨_, rfl, pb, CP, pd, _, _, rfl, c1, T.c_Pass.cl, T.n_Pass_span, lk_Pass_span, ts, _, 0, _, rfl, rfl, c2, rfl, _, rfl, t, _, 2, _, rfl, rfl, ht, rfl, _, _, rfl, rfl, _, rfl, ite2 (fun k2 => ?_) (fun k2 => ?_)⟩
      · refine ⟨_, rfl, _, _, rfl, rfl, .inr ⟨_, rfl, ?_⟩⟩
        unfold inM at q
        rw [show decide (z.first ≤ (m : Int)) = true from k2, Bool.true_and] at q
        exact q
      · refine .inr ⟨_, rfl, ?_⟩
        unfold inM at q
        rw [show decide (z.first ≤ (m : Int)) = false from Bool.eq_false_iff.mpr k2, Bool.false_and] at q
        exact q
    · have es : ¬ z.sta = s := fun h => k1 (decide_eq_true (by rw [h]; rfl))
      rw [show pasPart W (.sta s m) k z = 0 from if_neg es] at q
      exact .inr ⟨_, rfl, q⟩
  | store s m =>
    refine ⟨_, rfl, t, _, 0, _, rfl, rfl, ht, rfl, rfl, _, rfl, iteF' (by show decide (V.str (Str.ofString "store") = V.str _) = false; decide +kernel) ?_⟩
    refine ⟨_, rfl, t, _, 0, _, rfl, rfl, ht, rfl, rfl, _, rfl, iteF' (by show decide (V.str (Str.ofString "store") = V.str _) = false; decide +kernel) ?_⟩
    refine ⟨_, rfl, t, _, 1, _, rfl, rfl, ht, rfl, _, rfl, pb, CP, pd, _, _, rfl, c1, T.c_Pass.cl, T.n_Pass_satellite, lk_Pass_satellite, rfl, _, rfl, ite2 (fun k1 => q) (fun k1 => ?_)⟩
    exact ⟨_, rfl, t, _, 0, _, rfl, rfl, ht, rfl, rfl, _, rfl, iteT' (by show decide (V.str (Str.ofString "store") = V.str _) = true; decide +kernel) q⟩
  | sat s m =>
    refine ⟨_, rfl, t, _, 0, _, rfl, rfl, ht, rfl, rfl, _, rfl, iteF' (by show decide (V.str (Str.ofString "satellite") = V.str _) = false; decide +kernel) ?_⟩
    refine ⟨_, rfl, t, _, 0, _, rfl, rfl, ht, rfl, rfl, _, rfl, iteF' (by show decide (V.str (Str.ofString "satellite") = V.str _) = false; decide +kernel) ?_⟩
    refine ⟨_, rfl, t, _, 1, _, rfl, rfl, ht, rfl, _, rfl, pb, CP, pd, _, _, rfl, c1, T.c_Pass.cl, T.n_Pass_satellite, lk_Pass_satellite, rfl, _, rfl, ite2 (fun k1 => ?_) (fun k1 => ?_)⟩
    · rw [show pasPart W (.sat s m) k z = 0 from if_neg (fun h => sneg k1 h.symm)] at q
      exact q
    · have es := (spos k1).symm
      refine ⟨_, rfl, t, _, 0, _, rfl, rfl, ht, rfl, rfl, _, rfl, iteF' (by show decide (V.str (Str.ofString "satellite") = V.str _) = false; decide +kernel) ?_⟩
      obtain ⟨zs, hzs⟩ : ∃ z, W.sats[s]? = some z := ⟨_, List.getElem?_eq_getElem rok.num⟩
      obtain ⟨sb, sd, tl, ls, hsb, g1, g2, g3⟩ := rw_sat q0 hzs
      refine ⟨_, rfl, t, _, 0, _, rfl, rfl, ht, rfl, rfl, _, rfl, iteT' (by show decide (V.str (Str.ofString "satellite") = V.str _) = true; decide +kernel) ?_⟩
      rw [show pasPart W (.sat s m) k z = if inM m z.first (z.fin + rwSet W s) = true then 1 else 0 from if_pos es, rwSet_of hzs] at q
      refine ⟨_, rfl, pb, CP, pd, _, _, rfl, c1, T.c_Pass.cl, T.n_Pass_span, lk_Pass_span, ts, _, 0, _, rfl, rfl, c2, rfl, _, rfl, t, _, 2, _, rfl, rfl, ht, rfl, _, _, rfl, rfl, _, rfl, ite2 (fun k2 => ?_) (fun k2 => ?_)⟩
      · refine ⟨_, rfl, pb, CP, pd, _, _, rfl, c1, T.c_Pass.cl, T.n_Pass_span, lk_Pass_span, ts, _, 1, _, rfl, rfl, c2, rfl, _, rfl, ac, CW, dx, _, _, rfl, gw, T.c_World.cl, T.n_World_satellites, lk_World_satellites, _, rfl, t, _, 1, _, rfl, rfl, ht, rfl, t0, x0, (s : Int), _, rfl, rfl, j0, atI_nat hsb, sb, CS, sd, _, _, rfl, g1, T.c_Satellite.cl, T.n_Satellite_settle, lk_Satellite_settle, _, _, rfl, rfl, _, _, rfl, rfl, .inr ⟨_, rfl, ?_⟩⟩
        unfold inM at q
        rw [show decide (z.first ≤ (m : Int)) = true from k2, Bool.true_and] at q
        exact q
      · refine .inr ⟨_, rfl, ?_⟩
        unfold inM at q
        rw [show decide (z.first ≤ (m : Int)) = false from Bool.eq_false_iff.mpr k2, Bool.false_and] at q
        exact q
  | energy s m =>
    refine ⟨_, rfl, t, _, 0, _, rfl, rfl, ht, rfl, rfl, _, rfl, iteF' (by show decide (V.str (Str.ofString "energy") = V.str _) = false; decide +kernel) ?_⟩
    refine ⟨_, rfl, t, _, 0, _, rfl, rfl, ht, rfl, rfl, _, rfl, iteF' (by show decide (V.str (Str.ofString "energy") = V.str _) = false; decide +kernel) ?_⟩
    refine ⟨_, rfl, t, _, 1, _, rfl, rfl, ht, rfl, _, rfl, pb, CP, pd, _, _, rfl, c1, T.c_Pass.cl, T.n_Pass_satellite, lk_Pass_satellite, rfl, _, rfl, ite2 (fun k1 => ?_) (fun k1 => ?_)⟩
    · rw [show pasPart W (.energy s m) k z = 0 from if_neg (fun h => sneg k1 h.symm)] at q
      exact q
    · have es := (spos k1).symm
      refine ⟨_, rfl, t, _, 0, _, rfl, rfl, ht, rfl, rfl, _, rfl, iteF' (by show decide (V.str (Str.ofString "energy") = V.str _) = false; decide +kernel) ?_⟩
      refine ⟨_, rfl, t, _, 0, _, rfl, rfl, ht, rfl, rfl, _, rfl, iteF' (by show decide (V.str (Str.ofString "energy") = V.str _) = false; decide +kernel) ?_⟩
      refine ⟨_, rfl, t, _, 0, _, rfl, rfl, ht, rfl, rfl, _, rfl, iteT' (by show decide (V.str (Str.ofString "energy") = V.str _) = true; decide +kernel) ?_⟩
      rw [show pasPart W (.energy s m) k z = if z.first ≤ (m : Int) then z.energy else 0 from if_pos es] at q
      refine ⟨_, rfl, pb, CP, pd, _, _, rfl, c1, T.c_Pass.cl, T.n_Pass_energy, lk_Pass_energy, _, rfl, pb, CP, pd, _, _, rfl, c1, T.c_Pass.cl, T.n_Pass_span, lk_Pass_span, ts, _, 0, _, rfl, rfl, c2, rfl, _, rfl, t, _, 2, _, rfl, rfl, ht, rfl, _, _, rfl, rfl, _, _, rfl, rfl, ?_⟩
      rw [← mul_ib2] at q
      exact q
  | efrom s m0 m =>
    refine ⟨_, rfl, t, _, 0, _, rfl, rfl, ht, rfl, rfl, _, rfl, iteF' (by show decide (V.str (Str.ofString "energy from") = V.str _) = false; decide +kernel) ?_⟩
    refine ⟨_, rfl, t, _, 0, _, rfl, rfl, ht, rfl, rfl, _, rfl, iteF' (by show decide (V.str (Str.ofString "energy from") = V.str _) = false; decide +kernel) ?_⟩
    refine ⟨_, rfl, t, _, 1, _, rfl, rfl, ht, rfl, _, rfl, pb, CP, pd, _, _, rfl, c1, T.c_Pass.cl, T.n_Pass_satellite, lk_Pass_satellite, rfl, _, rfl, ite2 (fun k1 => ?_) (fun k1 => ?_)⟩
    · rw [show pasPart W (.efrom s m0 m) k z = 0 from if_neg (fun h => sneg k1 h.symm)] at q
      exact q
    · have es := (spos k1).symm
      refine ⟨_, rfl, t, _, 0, _, rfl, rfl, ht, rfl, rfl, _, rfl, iteF' (by show decide (V.str (Str.ofString "energy from") = V.str _) = false; decide +kernel) ?_⟩
      refine ⟨_, rfl, t, _, 0, _, rfl, rfl, ht, rfl, rfl, _, rfl, iteF' (by show decide (V.str (Str.ofString "energy from") = V.str _) = false; decide +kernel) ?_⟩
      refine ⟨_, rfl, t, _, 0, _, rfl, rfl, ht, rfl, rfl, _, rfl, iteF' (by show decide (V.str (Str.ofString "energy from") = V.str _) = false; decide +kernel) ?_⟩
      rw [show pasPart W (.efrom s m0 m) k z = if z.first ≤ (m : Int) ∧ (m0 : Int) < z.first then z.energy else 0 from if_pos es] at q
      refine ⟨_, rfl, pb, CP, pd, _, _, rfl, c1, T.c_Pass.cl, T.n_Pass_energy, lk_Pass_energy, _, rfl, t, _, 2, _, rfl, rfl, ht, rfl, _, rfl, pb, CP, pd, _, _, rfl, c1, T.c_Pass.cl, T.n_Pass_span, lk_Pass_span, ts, _, 0, _, rfl, rfl, c2, rfl, _, _, rfl, rfl, _, rfl, ite2 (fun k2 => ?_) (fun k2 => ?_)⟩
      · have k2 : (m0 : Int) < z.first := of_decide_eq_true k2
        refine ⟨_, rfl, t, _, 3, _, rfl, rfl, ht, rfl, _, _, rfl, rfl, _, _, rfl, rfl, ?_⟩
        rw [show (if z.first ≤ (m : Int) ∧ (m0 : Int) < z.first then z.energy else 0) = if z.first ≤ (m : Int) then z.energy else 0 from by
          by_cases c : z.first ≤ (m : Int)
          · rw [if_pos c, if_pos ⟨c, k2⟩]
          · rw [if_neg c, if_neg (fun h => c h.1)], ← mul_ib2] at q
        exact q
      · refine ⟨_, _, rfl, rfl, ?_⟩
        rw [if_neg (fun h => k2 (decide_eq_true h.2)), ← mul_i0 (a := z.energy)] at q
        exact q
def spLRight (K : PySem.W.Frag) (CS CT CR CP CW : Addr) : Sp := fun vs H Q _ => ∃ (ac t : Addr) (W : WorldD) (r : RowD), vs = [.ref ac, .ref t] ∧ WorldOk W ∧ WorldAt K CS CT CR CP CW H ac W ∧ SqT K H t (rowV r) ∧ RowOk W r ∧ ∀ H', Same H H' → Q (.int (rightW W r)) H'
set_option maxHeartbeats 16000000 in
theorem d_lright (T : TxtW K mg CL CS CT CR CP CW aS aR fS fT fR fP) (A : At K mg "_law_right" s__law_right ["world", "row"]) : DefOk P w K mg base CX0 1 "_law_right" ["world", "row"] (spLRight K CS CT CR CP CW) := by
  have B := T.L.B
  refine A.ok sc__law_right (fun vs H Q E h => ?_) (fun f cdv A outer s H vs Q E hr h => ?_)
  · obtain ⟨ac, t, W, r, rfl, _⟩ := h
    rfl
  obtain ⟨ac, t, W, r, rfl, wok, hW, ht, rok, q⟩ := h
  have hh := wok.horizon
  refine ⟨_, pss_cons (ps_if (pt_cmpR op_eq (pe_ix ix_tup (pv 1) pe_int (fun _ _ => rfl)) pe_str (nomark _))
      (pss_one (ps_ret pe_int))
      (pss_nil))
  (pss_cons (ps_if (pt_cmpR op_eq (pe_ix ix_tup (pv 1) pe_int (fun _ _ => rfl)) pe_str (nomark _))
      (pss_one (ps_ret (pe_fld (pe_ix ix_tup (pe_fld (pv 0) rfl) (pe_ix ix_tup (pv 1) pe_int (fun _ _ => rfl)) (fun _ _ => rfl)) rfl)))
      (pss_nil))
  (pss_cons (ps_set (i := 2) sc__law_right.nd rfl (Or.inl rfl) (pe_ix ix_tup (pe_fld (pv 0) rfl) (pe_ix ix_tup (pv 1) pe_int (fun _ _ => rfl)) (fun _ _ => rfl)))
  (pss_cons (ps_if (pt_cmpR op_eq (pe_ix ix_tup (pv 1) pe_int (fun _ _ => rfl)) pe_str (nomark _))
      (pss_one (ps_ret pe_int))
      (pss_nil))
  (pss_cons (ps_if (pt_cmpR op_eq (pe_ix ix_tup (pv 1) pe_int (fun _ _ => rfl)) pe_str (nomark _))
      (pss_one (ps_ret (pe_fld (pv 2) rfl)))
      (pss_nil))
  (pss_cons (ps_set (i := 3) sc__law_right.nd rfl (Or.inl rfl) pe_int)
  (pss_cons (ps_set (i := 4) sc__law_right.nd rfl (Or.inl rfl) (pe_fld (pv 2) rfl))
  (pss_cons (ps_if (pt_cmpR op_eq (pe_ix ix_tup (pv 1) pe_int (fun _ _ => rfl)) pe_str (nomark _))
      (pss_cons (ps_set (i := 3) sc__law_right.nd rfl (Or.inl rfl) (pe_op op_add (pe_ix ix_tup (pv 1) pe_int (fun _ _ => rfl)) pe_int))
      (pss_one (ps_set (i := 4) sc__law_right.nd rfl (Or.inl rfl) (pe_fld (pv 2) rfl))))
      (pss_nil))
  (pss_cons (ps_for PassesOwn.never rfl (pi_range2 (by rfl) B.range (pa_cons (pv 3) (pa_cons (pe_ix ix_tup (pv 1) (pe_un un_neg pe_int) (fun _ _ => rfl)) pa_nil))) (pg_name (i := 5) sc__law_right.nd rfl (Or.inr rfl))
      (pss_one (ps_set (i := 4) sc__law_right.nd rfl (Or.inl rfl) (pe_op op_add (pv 4) (pe_op op_mul (pe_fld (pv 2) rfl) (pe_callB (call_len_seq) (by rfl) B.len (by decide +kernel) (pa_cons (pe_lc (own := [("span", 6)])  rfl sc__law_right.nd (pi_tup (pe_fld (pv 2) rfl)) (blkOk_by (own := [("span", 6)]) (N := ["world", "row", "satellite", "first", "right", "m", "span"]) (sc := defScope s__law_right) (by decide +kernel)) (fun _ _ _ _ _ => pg_name (i := 6) sc__law_right.nd rfl (Or.inl rfl)) (fun _ _ _ _ _ => pts_one (pt_chain op_le op_lt (pe_ix (ix_tupK (K := K) rfl) (pv 6) pe_int (fun _ _ => rfl)) (pv 5) (pe_ix (ix_tupK (K := K) rfl) (pv 6) pe_int (fun _ _ => rfl)))) (fun _ _ _ _ _ => pe_int)) pa_nil)))))))
  (pss_one (ps_ret (pe_op op_sub (pv 4) (pe_fld (pv 2) rfl))))))))))))
    , ?_⟩
  obtain ⟨dx, t0, t1, t2, t3, x0, x1, x2, x3, gw, j0, q0, j1, q1, _⟩ := hW.ex
  cases r with
  | room p => exact ⟨_, rfl, t, _, 0, _, rfl, rfl, ht, rfl, rfl, _, rfl, iteT' (by show decide (V.str (Str.ofString "room") = V.str _) = true; decide +kernel) (q _ (Same.refl _))⟩
  | sta s m =>
    obtain ⟨z, hz⟩ : ∃ z, W.stas[s]? = some z := ⟨_, List.getElem?_eq_getElem rok.num⟩
    obtain ⟨sb, sd, hsb, g1⟩ := rw_sta q1 hz
    refine ⟨_, rfl, t, _, 0, _, rfl, rfl, ht, rfl, rfl, _, rfl, iteF' (by show decide (V.str (Str.ofString "station") = V.str _) = false; decide +kernel) ?_⟩
    refine ⟨_, rfl, t, _, 0, _, rfl, rfl, ht, rfl, rfl, _, rfl, iteT' (by show decide (V.str (Str.ofString "station") = V.str _) = true; decide +kernel) ?_⟩
    refine ⟨_, rfl, ac, CW, dx, _, _, rfl, gw, T.c_World.cl, T.n_World_stations, lk_World_stations, _, rfl, t, _, 1, _, rfl, rfl, ht, rfl, t1, x1, (s : Int), _, rfl, rfl, j1, atI_nat hsb, sb, CT, sd, _, _, rfl, g1, T.c_Station.cl, T.n_Station_antennas, lk_Station_antennas, ?_⟩
    have e := q _ (Same.refl _)
    rw [show rightW W (.sta s m) = z.antennas from by show (match W.stas[s]? with | some z => z.antennas | none => 0) = _; rw [hz]] at e
    exact e
  | sat s m =>
    obtain ⟨z, hz⟩ : ∃ z, W.sats[s]? = some z := ⟨_, List.getElem?_eq_getElem rok.num⟩
    have zok := wok.sats z (List.mem_of_getElem? hz)
    have chg := zok.charge
    have ll := zok.light.len (by omega)
    obtain ⟨sb, sd, tl, ls, hsb, g1, g2, g3⟩ := rw_sat q0 hz
    refine ⟨_, rfl, t, _, 0, _, rfl, rfl, ht, rfl, rfl, _, rfl, iteF' (by show decide (V.str (Str.ofString "satellite") = V.str _) = false; decide +kernel) ?_⟩
    refine ⟨_, rfl, t, _, 0, _, rfl, rfl, ht, rfl, rfl, _, rfl, iteF' (by show decide (V.str (Str.ofString "satellite") = V.str _) = false; decide +kernel) ?_⟩
    refine ⟨_, rfl, ac, CW, dx, _, _, rfl, gw, T.c_World.cl, T.n_World_satellites, lk_World_satellites, _, rfl, t, _, 1, _, rfl, rfl, ht, rfl, t0, x0, (s : Int), _, rfl, rfl, j0, atI_nat hsb, ?_⟩
    exact ⟨_, rfl, t, _, 0, _, rfl, rfl, ht, rfl, rfl, _, rfl, iteT' (by show decide (V.str (Str.ofString "satellite") = V.str _) = true; decide +kernel) (q _ (Same.refl _))⟩
  | store s m =>
    obtain ⟨z, hz⟩ : ∃ z, W.sats[s]? = some z := ⟨_, List.getElem?_eq_getElem rok.num⟩
    have zok := wok.sats z (List.mem_of_getElem? hz)
    have chg := zok.charge
    have ll := zok.light.len (by omega)
    obtain ⟨sb, sd, tl, ls, hsb, g1, g2, g3⟩ := rw_sat q0 hz
    refine ⟨_, rfl, t, _, 0, _, rfl, rfl, ht, rfl, rfl, _, rfl, iteF' (by show decide (V.str (Str.ofString "store") = V.str _) = false; decide +kernel) ?_⟩
    refine ⟨_, rfl, t, _, 0, _, rfl, rfl, ht, rfl, rfl, _, rfl, iteF' (by show decide (V.str (Str.ofString "store") = V.str _) = false; decide +kernel) ?_⟩
    refine ⟨_, rfl, ac, CW, dx, _, _, rfl, gw, T.c_World.cl, T.n_World_satellites, lk_World_satellites, _, rfl, t, _, 1, _, rfl, rfl, ht, rfl, t0, x0, (s : Int), _, rfl, rfl, j0, atI_nat hsb, ?_⟩
    refine ⟨_, rfl, t, _, 0, _, rfl, rfl, ht, rfl, rfl, _, rfl, iteF' (by show decide (V.str (Str.ofString "store") = V.str _) = false; decide +kernel) ?_⟩
    refine ⟨_, rfl, t, _, 0, _, rfl, rfl, ht, rfl, rfl, _, rfl, iteT' (by show decide (V.str (Str.ofString "store") = V.str _) = true; decide +kernel) ?_⟩
    refine ⟨_, rfl, sb, CS, sd, _, _, rfl, g1, T.c_Satellite.cl, T.n_Satellite_store, lk_Satellite_store, ?_⟩
    have e := q _ (Same.refl _)
    rw [show rightW W (.store s m) = z.store from by show (match W.sats[s]? with | some z => z.store | none => 0) = _; rw [hz]] at e
    exact e
  | energy s m =>
    obtain ⟨z, hz⟩ : ∃ z, W.sats[s]? = some z := ⟨_, List.getElem?_eq_getElem rok.num⟩
    have zok := wok.sats z (List.mem_of_getElem? hz)
    have chg := zok.charge
    have ll := zok.light.len (by omega)
    obtain ⟨sb, sd, tl, ls, hsb, g1, g2, g3⟩ := rw_sat q0 hz
    refine ⟨_, rfl, t, _, 0, _, rfl, rfl, ht, rfl, rfl, _, rfl, iteF' (by show decide (V.str (Str.ofString "energy") = V.str _) = false; decide +kernel) ?_⟩
    refine ⟨_, rfl, t, _, 0, _, rfl, rfl, ht, rfl, rfl, _, rfl, iteF' (by show decide (V.str (Str.ofString "energy") = V.str _) = false; decide +kernel) ?_⟩
    refine ⟨_, rfl, ac, CW, dx, _, _, rfl, gw, T.c_World.cl, T.n_World_satellites, lk_World_satellites, _, rfl, t, _, 1, _, rfl, rfl, ht, rfl, t0, x0, (s : Int), _, rfl, rfl, j0, atI_nat hsb, ?_⟩
    refine ⟨_, rfl, t, _, 0, _, rfl, rfl, ht, rfl, rfl, _, rfl, iteF' (by show decide (V.str (Str.ofString "energy") = V.str _) = false; decide +kernel) ?_⟩
    refine ⟨_, rfl, t, _, 0, _, rfl, rfl, ht, rfl, rfl, _, rfl, iteF' (by show decide (V.str (Str.ofString "energy") = V.str _) = false; decide +kernel) ?_⟩
    have mb := rok.mins m List.mem_cons_self
    refine ⟨_, rfl, sb, CS, sd, _, _, rfl, g1, T.c_Satellite.cl, T.n_Satellite_start_level, lk_Satellite_start_level, ?_⟩
    refine ⟨_, rfl, t, _, 0, _, rfl, rfl, ht, rfl, rfl, _, rfl, iteF' (by show decide (V.str (Str.ofString "energy") = V.str _) = false; decide +kernel) ?_⟩
    have lit : ∀ q ∈ z.light, q.1 < q.2 := light_lt zok.light
    refine ⟨_, rfl, _, rfl, _, rfl, t, _, _, _, rfl, rfl, ht, rfl, (0 : Int), (m : Int), rfl, ⟨by omega, by omega, by (clear T B hr wok hW hh gw j0 q0 j1 q1 ht rok q hz zok chg ll hsb g1 g2 g3 mb lit; omega), by omega⟩, ?_⟩
    refine for_range (lo := (0 : Int)) (n := ((m : Int) - (0 : Int)).toNat) (fun i σ H' => ∃ y5, σ = [some (.ref ac), some (.ref t), some (.ref sb), some (.int (0 : Int)), some (.int (z.level + z.charge * mw z.light (0 : Int) ((0 : Int) + (i : Int)))), y5, none] ∧ Same H H')
      ⟨none, by rw [show mw z.light (0 : Int) ((0 : Int) + ((0 : Nat) : Int)) = 0 from mw_le (by omega) _, Int.mul_zero, Int.add_zero]; rfl, Same.refl _⟩ (fun i σ H1 hi hI => ?_) (fun σ H1 hI => ?_)
    · obtain ⟨y5, rfl, hs⟩ := hI
      refine ⟨_, rfl, _, rfl, sb, CS, sd, _, _, rfl, hs _ _ g1, T.c_Satellite.cl, T.n_Satellite_charge, lk_Satellite_charge, _, rfl, sb, CS, sd, _, _, rfl, hs _ _ g1, T.c_Satellite.cl, T.n_Satellite_light, lk_Satellite_light, tl, rfl, ⟨_, Same.tup hs g2⟩, fun D hD => lc_tup (K := K) (a := tl) (xs := ls) (fun k H' => Same H1 H' ∧ H' D = some (.lst (List.replicate ((z.light.take k).filter (hasM ((0 : Int) + (i : Int)))).length (V.int 1)))) ⟨same_new hD _, upd_same⟩ (fun k H' _ h => Same.tup (hs.trans h.1) g2) (fun k x H2 hx hI => ?_) (fun H2 hI => ?_)⟩
      · obtain ⟨hs2, hDD⟩ := hI
        obtain ⟨y, hy, u, rfl, hu⟩ := paired_at g3 hx
        have hu2 := Same.tup (hs.trans hs2) hu
        have lk := paired_len g3
        have kl : k < ls.length := (List.getElem?_eq_some_iff.mp hx).1
        have fl := List.length_filter_le (hasM ((0 : Int) + (i : Int))) (z.light.take k)
        rw [List.length_take] at fl
        have tk : (z.light.take (k + 1)).filter (hasM ((0 : Int) + (i : Int))) = (z.light.take k).filter (hasM ((0 : Int) + (i : Int))) ++ if hasM ((0 : Int) + (i : Int)) y = true then [y] else [] := by
          rw [List.take_add_one, hy, Option.toList_some, List.filter_append, List.filter_cons, List.filter_nil]
        refine ⟨rfl, _, rfl, u, _, 0, _, rfl, rfl, hu2, rfl, _, rfl, _, _, rfl, rfl, _, rfl, ite2 (fun k1 => ?_) (fun k1 => ?_)⟩
        · have k1 : y.1 ≤ (0 : Int) + (i : Int) := of_decide_eq_true k1
          refine ⟨_, rfl, u, _, 1, _, rfl, rfl, hu2, rfl, _, _, rfl, rfl, _, rfl, ite2 (fun k2 => ?_) (fun k2 => ?_)⟩
          · have k2 : (0 : Int) + (i : Int) < y.2 := of_decide_eq_true k2
            refine ⟨_, hDD, by rw [List.length_replicate]; exact small1000 (by (clear T B hr wok hW gw j0 q0 j1 q1 ht rok q hz zok chg hsb g1 g2 g3 mb lit hi hs hD hs2 hDD hy hu hx hu2 tk k1 k2; omega)), same_at hD hs2 _, ?_⟩
            rw [upd_same, tk, if_pos (by unfold hasM; rw [decide_eq_true k1, decide_eq_true k2]; rfl), List.length_append, show ([y] : List (Int × Int)).length = 1 from rfl, List.replicate_succ']
          · have k2 : ¬ (0 : Int) + (i : Int) < y.2 := fun h => k2 (decide_eq_true h)
            rw [tk, if_neg (by unfold hasM; rw [decide_eq_false k2, Bool.and_false]; exact Bool.false_ne_true), List.append_nil]
            exact ⟨hs2, hDD⟩
        · have k1 : ¬ y.1 ≤ (0 : Int) + (i : Int) := fun h => k1 (decide_eq_true h)
          refine ⟨_, rfl, iteF' rfl ?_⟩
          rw [tk, if_neg (by unfold hasM; rw [decide_eq_false k1, Bool.false_and]; exact Bool.false_ne_true), List.append_nil]
          exact ⟨hs2, hDD⟩
      · obtain ⟨hs2, hDD⟩ := hI
        rw [show ls.length = z.light.length from paired_len g3, List.take_length] at hDD
        refine ⟨D, _, rfl, .inl (SqL.of hDD), _, _, rfl, rfl, .inl ⟨by (clear T B hr wok hW hh gw j0 q0 j1 q1 ht rok q hz zok ll hsb g1 g2 g3 mb lit hi hs hD hs2 hDD; omega), by (clear T B hr wok hW hh gw j0 q0 j1 q1 ht rok q hz zok ll hsb g1 g2 g3 mb lit hi hs hD hs2 hDD; omega)⟩, _, _, rfl, rfl, some (.int ((0 : Int) + (i : Int))), ?_, hs.trans hs2⟩
        rw [show (0 : Int) + ((i + 1 : Nat) : Int) = (0 : Int) + (i : Int) + 1 by (clear T B hr wok hW hh gw j0 q0 j1 q1 ht rok q hz zok chg ll hsb g1 g2 g3 mb lit hi hs hD hs2 hDD; omega), mw_succ (by (clear T B hr wok hW hh gw j0 q0 j1 q1 ht rok q hz zok chg ll hsb g1 g2 g3 mb lit hi hs hD hs2 hDD; omega)) _ lit, Int.mul_add, ← Int.add_assoc]
        simp only [List.length_replicate]
        rfl
    obtain ⟨y5, rfl, hs⟩ := hI
    refine ⟨_, rfl, _, rfl, sb, CS, sd, _, _, rfl, hs _ _ g1, T.c_Satellite.cl, T.n_Satellite_reserve, lk_Satellite_reserve, _, _, rfl, rfl, ?_⟩
    have e := q _ hs
    have e2 : (0 : Int) + ((((m : Int) - (0 : Int)).toNat : Nat) : Int) = (m : Int) := by omega
    rw [show rightW W (.energy s m) = z.level + z.charge * mw z.light 0 m - z.reserve from by show (match W.sats[s]? with | some z => z.level - z.reserve + z.charge * mw z.light 0 m | none => 0) = _; rw [hz]; show z.level - z.reserve + z.charge * mw z.light 0 m = _; (clear T B hr wok hW hh gw j0 q0 j1 q1 ht rok q hz zok chg ll hsb g1 g2 g3 mb lit hs e e2; omega), ← e2] at e
    exact e
  | efrom s m0 m =>
    obtain ⟨z, hz⟩ : ∃ z, W.sats[s]? = some z := ⟨_, List.getElem?_eq_getElem rok.num⟩
    have zok := wok.sats z (List.mem_of_getElem? hz)
    have chg := zok.charge
    have ll := zok.light.len (by omega)
    obtain ⟨sb, sd, tl, ls, hsb, g1, g2, g3⟩ := rw_sat q0 hz
    refine ⟨_, rfl, t, _, 0, _, rfl, rfl, ht, rfl, rfl, _, rfl, iteF' (by show decide (V.str (Str.ofString "energy from") = V.str _) = false; decide +kernel) ?_⟩
    refine ⟨_, rfl, t, _, 0, _, rfl, rfl, ht, rfl, rfl, _, rfl, iteF' (by show decide (V.str (Str.ofString "energy from") = V.str _) = false; decide +kernel) ?_⟩
    refine ⟨_, rfl, ac, CW, dx, _, _, rfl, gw, T.c_World.cl, T.n_World_satellites, lk_World_satellites, _, rfl, t, _, 1, _, rfl, rfl, ht, rfl, t0, x0, (s : Int), _, rfl, rfl, j0, atI_nat hsb, ?_⟩
    refine ⟨_, rfl, t, _, 0, _, rfl, rfl, ht, rfl, rfl, _, rfl, iteF' (by show decide (V.str (Str.ofString "energy from") = V.str _) = false; decide +kernel) ?_⟩
    refine ⟨_, rfl, t, _, 0, _, rfl, rfl, ht, rfl, rfl, _, rfl, iteF' (by show decide (V.str (Str.ofString "energy from") = V.str _) = false; decide +kernel) ?_⟩
    have mb := rok.mins m (List.mem_cons_of_mem _ List.mem_cons_self)
    have mb0 := rok.mins m0 List.mem_cons_self
    have asc : m0 < m := rok.asc
    refine ⟨_, rfl, sb, CS, sd, _, _, rfl, g1, T.c_Satellite.cl, T.n_Satellite_start_level, lk_Satellite_start_level, ?_⟩
    refine ⟨_, rfl, t, _, 0, _, rfl, rfl, ht, rfl, rfl, _, rfl, iteT' (by show decide (V.str (Str.ofString "energy from") = V.str _) = true; decide +kernel) ?_⟩
    refine ⟨_, rfl, t, _, 2, _, rfl, rfl, ht, rfl, _, _, rfl, rfl, ?_⟩
    refine ⟨_, rfl, sb, CS, sd, _, _, rfl, g1, T.c_Satellite.cl, T.n_Satellite_battery, lk_Satellite_battery, ?_⟩
    have lit : ∀ q ∈ z.light, q.1 < q.2 := light_lt zok.light
    refine ⟨_, rfl, _, rfl, _, rfl, t, _, _, _, rfl, rfl, ht, rfl, ((m0 : Int) + 1), (m : Int), rfl, ⟨by (clear T B hr wok hW hh gw j0 q0 j1 q1 ht rok q hz zok chg ll hsb g1 g2 g3 mb mb0 asc lit; omega), by omega, by (clear T B hr wok hW hh gw j0 q0 j1 q1 ht rok q hz zok chg ll hsb g1 g2 g3 mb mb0 asc lit; omega), by omega⟩, ?_⟩
    refine for_range (lo := ((m0 : Int) + 1)) (n := ((m : Int) - ((m0 : Int) + 1)).toNat) (fun i σ H' => ∃ y5, σ = [some (.ref ac), some (.ref t), some (.ref sb), some (.int ((m0 : Int) + 1)), some (.int (z.battery + z.charge * mw z.light ((m0 : Int) + 1) (((m0 : Int) + 1) + (i : Int)))), y5, none] ∧ Same H H')
      ⟨none, by rw [show mw z.light ((m0 : Int) + 1) (((m0 : Int) + 1) + ((0 : Nat) : Int)) = 0 from mw_le (by (clear T B hr wok hW hh gw j0 q0 j1 q1 ht rok q hz zok chg ll hsb g1 g2 g3 mb mb0 asc lit; omega)) _, Int.mul_zero, Int.add_zero]; rfl, Same.refl _⟩ (fun i σ H1 hi hI => ?_) (fun σ H1 hI => ?_)
    · obtain ⟨y5, rfl, hs⟩ := hI
      refine ⟨_, rfl, _, rfl, sb, CS, sd, _, _, rfl, hs _ _ g1, T.c_Satellite.cl, T.n_Satellite_charge, lk_Satellite_charge, _, rfl, sb, CS, sd, _, _, rfl, hs _ _ g1, T.c_Satellite.cl, T.n_Satellite_light, lk_Satellite_light, tl, rfl, ⟨_, Same.tup hs g2⟩, fun D hD => lc_tup (K := K) (a := tl) (xs := ls) (fun k H' => Same H1 H' ∧ H' D = some (.lst (List.replicate ((z.light.take k).filter (hasM (((m0 : Int) + 1) + (i : Int)))).length (V.int 1)))) ⟨same_new hD _, upd_same⟩ (fun k H' _ h => Same.tup (hs.trans h.1) g2) (fun k x H2 hx hI => ?_) (fun H2 hI => ?_)⟩
      · obtain ⟨hs2, hDD⟩ := hI
        obtain ⟨y, hy, u, rfl, hu⟩ := paired_at g3 hx
        have hu2 := Same.tup (hs.trans hs2) hu
        have lk := paired_len g3
        have kl : k < ls.length := (List.getElem?_eq_some_iff.mp hx).1
        have fl := List.length_filter_le (hasM (((m0 : Int) + 1) + (i : Int))) (z.light.take k)
        rw [List.length_take] at fl
        have tk : (z.light.take (k + 1)).filter (hasM (((m0 : Int) + 1) + (i : Int))) = (z.light.take k).filter (hasM (((m0 : Int) + 1) + (i : Int))) ++ if hasM (((m0 : Int) + 1) + (i : Int)) y = true then [y] else [] := by
          rw [List.take_add_one, hy, Option.toList_some, List.filter_append, List.filter_cons, List.filter_nil]
        refine ⟨rfl, _, rfl, u, _, 0, _, rfl, rfl, hu2, rfl, _, rfl, _, _, rfl, rfl, _, rfl, ite2 (fun k1 => ?_) (fun k1 => ?_)⟩
        · have k1 : y.1 ≤ ((m0 : Int) + 1) + (i : Int) := of_decide_eq_true k1
          refine ⟨_, rfl, u, _, 1, _, rfl, rfl, hu2, rfl, _, _, rfl, rfl, _, rfl, ite2 (fun k2 => ?_) (fun k2 => ?_)⟩
          · have k2 : ((m0 : Int) + 1) + (i : Int) < y.2 := of_decide_eq_true k2
            refine ⟨_, hDD, by rw [List.length_replicate]; exact small1000 (by (clear T B hr wok hW gw j0 q0 j1 q1 ht rok q hz zok chg hsb g1 g2 g3 mb mb0 asc lit hi hs hD hs2 hDD hy hu hx hu2 tk k1 k2; omega)), same_at hD hs2 _, ?_⟩
            rw [upd_same, tk, if_pos (by unfold hasM; rw [decide_eq_true k1, decide_eq_true k2]; rfl), List.length_append, show ([y] : List (Int × Int)).length = 1 from rfl, List.replicate_succ']
          · have k2 : ¬ ((m0 : Int) + 1) + (i : Int) < y.2 := fun h => k2 (decide_eq_true h)
            rw [tk, if_neg (by unfold hasM; rw [decide_eq_false k2, Bool.and_false]; exact Bool.false_ne_true), List.append_nil]
            exact ⟨hs2, hDD⟩
        · have k1 : ¬ y.1 ≤ ((m0 : Int) + 1) + (i : Int) := fun h => k1 (decide_eq_true h)
          refine ⟨_, rfl, iteF' rfl ?_⟩
          rw [tk, if_neg (by unfold hasM; rw [decide_eq_false k1, Bool.false_and]; exact Bool.false_ne_true), List.append_nil]
          exact ⟨hs2, hDD⟩
      · obtain ⟨hs2, hDD⟩ := hI
        rw [show ls.length = z.light.length from paired_len g3, List.take_length] at hDD
        refine ⟨D, _, rfl, .inl (SqL.of hDD), _, _, rfl, rfl, .inl ⟨by (clear T B hr wok hW hh gw j0 q0 j1 q1 ht rok q hz zok ll hsb g1 g2 g3 mb mb0 asc lit hi hs hD hs2 hDD; omega), by (clear T B hr wok hW hh gw j0 q0 j1 q1 ht rok q hz zok ll hsb g1 g2 g3 mb mb0 asc lit hi hs hD hs2 hDD; omega)⟩, _, _, rfl, rfl, some (.int (((m0 : Int) + 1) + (i : Int))), ?_, hs.trans hs2⟩
        rw [show ((m0 : Int) + 1) + ((i + 1 : Nat) : Int) = ((m0 : Int) + 1) + (i : Int) + 1 by (clear T B hr wok hW hh gw j0 q0 j1 q1 ht rok q hz zok chg ll hsb g1 g2 g3 mb mb0 asc lit hi hs hD hs2 hDD; omega), mw_succ (by (clear T B hr wok hW hh gw j0 q0 j1 q1 ht rok q hz zok chg ll hsb g1 g2 g3 mb mb0 asc lit hi hs hD hs2 hDD; omega)) _ lit, Int.mul_add, ← Int.add_assoc]
        simp only [List.length_replicate]
        rfl
    obtain ⟨y5, rfl, hs⟩ := hI
    refine ⟨_, rfl, _, rfl, sb, CS, sd, _, _, rfl, hs _ _ g1, T.c_Satellite.cl, T.n_Satellite_reserve, lk_Satellite_reserve, _, _, rfl, rfl, ?_⟩
    have e := q _ hs
    have e2 : ((m0 : Int) + 1) + ((((m : Int) - ((m0 : Int) + 1)).toNat : Nat) : Int) = (m : Int) := by (clear T B hr wok hW hh gw j0 q0 j1 q1 ht rok q hz zok chg ll hsb g1 g2 g3 mb mb0 lit hs e; omega)
    rw [show rightW W (.efrom s m0 m) = z.battery + z.charge * mw z.light ((m0 : Int) + 1) m - z.reserve from by show (match W.sats[s]? with | some z => z.battery - z.reserve + z.charge * mw z.light ((m0 : Int) + 1) m | none => 0) = _; rw [hz]; show z.battery - z.reserve + z.charge * mw z.light ((m0 : Int) + 1) m = _; (clear T B hr wok hW hh gw j0 q0 j1 q1 ht rok q hz zok chg ll hsb g1 g2 g3 mb mb0 asc lit hs e e2; omega), ← e2] at e
    exact e
end
end DP
namespace DP
open PySem PySem.Spec PyProof.Rows L2
abbrev s__law_case : Stmt := topS 96
theorem sc__law_case : FnScope ["plan", "cell", "numbers", "made", "r", "taken", "p"] ["plan", "cell"] (defScope s__law_case) := ⟨rfl, rfl, rfl, by decide +kernel, rfl, by decide +kernel, by decide +kernel⟩
/-- the same, some entries open -/
structure SubC (c d : CaseD) : Prop where
  nM : d.made.length = c.made.length
  nT : d.taken.length = c.taken.length
  m : ∀ (i : Nat) (e e' : EntM), c.made[i]? = some e → d.made[i]? = some e' → e' = e ∨ e' = .opn
  t : ∀ (i : Nat) (e e' : EntT), c.taken[i]? = some e → d.taken[i]? = some e' → e' = e ∨ e' = .opn
theorem dpAll_set {K : PySem.W.Frag} {H : Hp} : ∀ {xs : List V} {ds : List PyData} {x : V} {d : PyData} (i : Nat), DpAll K H xs ds → Dp K H x d → DpAll K H (xs.set i x) (ds.set i d)
  | _, _, _, _, _, .nil, _ => .nil
  | _, _, _, _, 0, .cons _ t, h => .cons h t
  | _, _, _, _, i + 1, .cons a t, h => .cons a (dpAll_set i t h)
theorem sub_set {α : Type} {o : α} {l l' : List α} {i : Nat} (h : ∀ (i : Nat) (e e' : α), l[i]? = some e → l'[i]? = some e' → e' = e ∨ e' = o) : ∀ (j : Nat) (e e' : α), l[j]? = some e → (l'.set i o)[j]? = some e' → e' = e ∨ e' = o := fun j e e' h1 h2 => by
  by_cases c : i = j
  · subst c
    rw [List.getElem?_set] at h2
    simp only [if_true] at h2
    split at h2
    · exact .inr (Option.some.inj h2).symm
    · exact absurd h2 (by simp)
  · rw [List.getElem?_set_ne c] at h2
    exact h j e e' h1 h2
section
variable {P : Program} {w : World} {K : PySem.W.Frag} {mg : Str → Option Value} {base : Heap}
def spCaseC (K : PySem.W.Frag) : Sp := fun vs H Q _ => ∃ (v : V) (c : CaseD) (u : Int), vs = [v, .int u] ∧ Dp K H v (casePy c) ∧ c.made.length ≤ 10 ∧ c.taken.length ≤ 10 ∧ ∀ v' H' d, Same H H' → SubC c d → Dp K H' v' (casePy d) → Q v' H'
set_option maxHeartbeats 8000000 in
theorem d_caseC (B : Bt mg) (D_law_draws : DefOk P w K mg base CX0 1 "_law_draws" ["cell", "count"] spDrawsC) (A : At K mg "_law_case" s__law_case ["plan", "cell"]) : DefOk P w K mg base CX0 2 "_law_case" ["plan", "cell"] (spCaseC K) := by
  refine A.ok sc__law_case (fun vs H Q E h => ?_) (fun f cdv A outer s H vs Q E hr h => ?_)
  · obtain ⟨v, c, u, rfl, _⟩ := h
    rfl
  obtain ⟨v, c, u, rfl, hd, l10, l10', q⟩ := h
  obtain ⟨t, tm, tt, xm, xt, rfl, ht, hm, htt, hxm, hxt, lm, lt⟩ := case_two hd
  refine ⟨_, pss_cons (ps_set (i := 2) sc__law_case.nd rfl (Or.inl rfl) (pe_f D_law_draws (hr.mono (by omega)) pass0 (pa_cons (pv 1) (pa_cons (pe_op op_add (pe_callB (call_len_seq) (by rfl) B.len (by decide +kernel) (pa_cons (pe_ix ix_tup (pv 0) pe_int (fun _ _ => rfl)) pa_nil)) (pe_callB (call_len_seq) (by rfl) B.len (by decide +kernel) (pa_cons (pe_ix ix_tup (pv 0) pe_int (fun _ _ => rfl)) pa_nil))) pa_nil))))
  (pss_cons (ps_set (i := 3) sc__law_case.nd rfl (Or.inl rfl) (pe_callTy (call_list_of) (by rfl) B.list (by decide +kernel) (pa_cons (pe_ix ix_tup (pv 0) pe_int (fun _ _ => rfl)) pa_nil)))
  (pss_cons (ps_for PassesOwn.never rfl (pi_range1 (by rfl) B.range (pa_cons (pe_callB (call_len_seq) (by rfl) B.len (by decide +kernel) (pa_cons (pv 3) pa_nil)) pa_nil)) (pg_name (i := 4) sc__law_case.nd rfl (Or.inl rfl))
      (pss_one (ps_if (pt_cmpR op_eq (pe_op op_mod (pe_ix ix_list (pv 2) (pv 4) (fun _ _ => rfl)) pe_int) pe_int (nomark _))
          (pss_one (ps_asg pe_str (pg_sub (pv 3) (pv 4) set_list)))
          (pss_nil))))
  (pss_cons (ps_set (i := 5) sc__law_case.nd rfl (Or.inl rfl) (pe_callTy (call_list_of) (by rfl) B.list (by decide +kernel) (pa_cons (pe_ix ix_tup (pv 0) pe_int (fun _ _ => rfl)) pa_nil)))
  (pss_cons (ps_for PassesOwn.never rfl (pi_range1 (by rfl) B.range (pa_cons (pe_callB (call_len_seq) (by rfl) B.len (by decide +kernel) (pa_cons (pv 5) pa_nil)) pa_nil)) (pg_name (i := 6) sc__law_case.nd rfl (Or.inl rfl))
      (pss_one (ps_if (pt_cmpR op_eq (pe_op op_mod (pe_ix ix_list (pv 2) (pe_op op_add (pe_callB (call_len_seq) (by rfl) B.len (by decide +kernel) (pa_cons (pv 3) pa_nil)) (pv 6)) (fun _ _ => rfl)) pe_int) pe_int (nomark _))
          (pss_one (ps_asg pe_str (pg_sub (pv 5) (pv 6) set_list)))
          (pss_nil))))
  (pss_one (ps_ret (pe_tup (pa_cons (pe_callTy (call_tuple_of) (by rfl) B.tuple (by decide +kernel) (pa_cons (pv 3) pa_nil)) (pa_cons (pe_callTy (call_tuple_of) (by rfl) B.tuple (by decide +kernel) (pa_cons (pv 5) pa_nil)) pa_nil)))))))))
    , ?_⟩
  refine ⟨_, rfl, _, rfl, t, _, 0, _, rfl, rfl, ht, rfl, tm, xm, rfl, .inr hm, _, rfl, t, _, 1, _, rfl, rfl, ht, rfl, tt, xt, rfl, .inr htt, _, _, rfl, rfl, u, xm.length + xt.length, rfl, by omega, fun np ds H1 s1 n1 hl hp => ?_⟩
  refine ⟨_, rfl, t, _, 0, _, rfl, rfl, Same.tup s1 ht, rfl, tm, xm, rfl, .inr (Same.tup s1 hm), fun D hD => ?_⟩
  have sD := s1.trans (same_new hD (.lst xm))
  have hpD := same_new hD (.lst xm) _ _ hp
  have nD := s1.free hD
  have nDp : np ≠ D := ne_of_none hp hD
  refine ⟨_, rfl, D, xm, rfl, .inl (SqL.of upd_same), _, rfl, by omega, by omega, ?_⟩
  refine for_range (lo := 0) (n := (xm.length : Int).toNat) (fun i σ H' => ∃ (es : List EntM) (xs : List V) (y4 : Option V), σ = [some (.ref t), some (.int u), some (.ref np), some (.ref D), y4, none, none] ∧
    H' D = some (.lst xs) ∧ H' np = some (.lst (ds.map V.int)) ∧ xs.length = xm.length ∧ es.length = xm.length ∧ DpAll K H' xs (es.map entM) ∧ (∀ (i : Nat) (e e' : EntM), c.made[i]? = some e → es[i]? = some e' → e' = e ∨ e' = .opn) ∧ Same H H')
    ⟨c.made, xm, none, rfl, upd_same, hpD, rfl, lm.symm, dpAll_same sD hxm, fun i e e' h1 h2 => .inl (by rw [h1] at h2; exact (Option.some.inj h2).symm), sD⟩ (fun i σ H2 hi hI => ?_) (fun σ H2 hI => ?_)
  · obtain ⟨es, xs, y4, rfl, hDD, hpp, hxl, hel, hdp, hsub, hs⟩ := hI
    obtain ⟨v1, hv1⟩ : ∃ v, ds[i]? = some v := ⟨_, List.getElem?_eq_getElem (by omega)⟩
    have g1 : (ds.map V.int)[i]? = some (.int v1) := by rw [List.getElem?_map, hv1]; rfl
    refine ⟨_, rfl, _, rfl, np, _, _, _, rfl, rfl, SqL.of hpp, (by rw [Int.zero_add]; exact atI_nat g1), _, _, rfl, rfl, (by show (0 : Int) < _; decide), rfl, _, rfl, ite2 (fun k1 => ?_) (fun k1 => ?_)⟩
    · have j : ixN xs.length (0 + (i : Int)) = some i := by
        unfold ixN
        rw [if_pos (by (clear B D_law_draws hr l10 l10' q hd ht hm htt hxm hxt lm lt s1 n1 hl hp hD sD hpD nD nDp hi hDD hpp hxl hel hdp hsub hs hv1 g1 k1; omega)), if_pos (by (clear B D_law_draws hr l10 l10' q hd ht hm htt hxm hxt lm lt s1 n1 hp hD sD hpD nD nDp hDD hpp hdp hsub hs hv1 g1 k1; omega))]
        congr 1
        (clear B D_law_draws hr l10 l10' q hd ht hm htt hxm hxt lm lt s1 n1 hl hp hD sD hpD nD nDp hi hDD hpp hxl hel hdp hsub hs hv1 g1 k1; omega)
      refine ⟨_, rfl, _, rfl, D, xs, _, i, rfl, rfl, hDD, j, ?_⟩
      refine ⟨es.set i .opn, xs.set i (.str "open"), _, rfl, upd_same, by rw [upd_ne nDp]; exact hpp, by rw [List.length_set, hxl], by rw [List.length_set, hel], ?_, sub_set hsub, same_at nD hs _⟩
      rw [List.map_set]
      exact dpAll_set i (dpTs_up (noLs_map noL_entM es) hDD hdp) (.str _)
    · exact ⟨es, xs, _, rfl, hDD, hpp, hxl, hel, hdp, hsub, hs⟩
  · obtain ⟨es, xs, y4, rfl, hDD, hpp, hxl, hel, hdp, hsub, hs⟩ := hI
    refine ⟨_, rfl, t, _, 1, _, rfl, rfl, Same.tup hs ht, rfl, tt, xt, rfl, .inr (Same.tup hs htt), fun F hF => ?_⟩
    have sF := same_new hF (.lst xt)
    have nF : D ≠ F := ne_of_none hDD hF
    have nFp : np ≠ F := ne_of_none hpp hF
    refine ⟨_, rfl, F, xt, rfl, .inl (SqL.of upd_same), _, rfl, by omega, by omega, ?_⟩
    refine for_range (lo := 0) (n := (xt.length : Int).toNat) (fun i σ H' => ∃ (fs : List EntT) (ys : List V) (y6 : Option V), σ = [some (.ref t), some (.int u), some (.ref np), some (.ref D), y4, some (.ref F), y6] ∧
      H' F = some (.lst ys) ∧ H' np = some (.lst (ds.map V.int)) ∧ ys.length = xt.length ∧ fs.length = xt.length ∧ DpAll K H' ys (fs.map entT) ∧ (∀ (i : Nat) (e e' : EntT), c.taken[i]? = some e → fs[i]? = some e' → e' = e ∨ e' = .opn) ∧ Same H2 H')
      ⟨c.taken, xt, none, rfl, upd_same, sF _ _ hpp, rfl, lt.symm, dpAll_same (hs.trans sF) hxt, fun i e e' h1 h2 => .inl (by rw [h1] at h2; exact (Option.some.inj h2).symm), sF⟩ (fun i σ H3 hi hI => ?_) (fun σ H3 hI => ?_)
    · obtain ⟨fs, ys, y6, rfl, hFF, hpp, hyl, hfl, hdq, hsub2, hq⟩ := hI
      obtain ⟨v1, hv1⟩ : ∃ v, ds[xs.length + i]? = some v := ⟨_, List.getElem?_eq_getElem (by (clear B D_law_draws hr l10 l10' q hd ht hm htt hxm hxt lm lt s1 n1 hp hD sD hpD nD nDp hDD hdp hsub hs hF sF nF nFp hFF hpp hdq hsub2 hq; omega))⟩
      have g1 : (ds.map V.int)[xs.length + i]? = some (.int v1) := by rw [List.getElem?_map, hv1]; rfl
      have e1 : (xs.length : Int) + (0 + (i : Int)) = ((xs.length + i : Nat) : Int) := by (clear B D_law_draws hr l10 l10' q hd ht hm htt hxm hxt lm lt s1 n1 hl hp hD sD hpD nD nDp hDD hxl hel hdp hsub hs hF sF nF nFp hi hFF hpp hyl hfl hdq hsub2 hq hv1 g1; omega)
      refine ⟨_, rfl, _, rfl, D, xs, rfl, .inl (SqL.of (hq _ _ hDD)), _, rfl, _, _, rfl, rfl, np, _, _, _, rfl, rfl, SqL.of hpp, (by rw [e1]; exact atI_nat g1), _, _, rfl, rfl, (by show (0 : Int) < _; decide), rfl, _, rfl, ite2 (fun k1 => ?_) (fun k1 => ?_)⟩
      · have j : ixN ys.length (0 + (i : Int)) = some i := by
          unfold ixN
          rw [if_pos (by (clear B D_law_draws hr l10 l10' q hd ht hm htt hxm hxt lm lt s1 n1 hl hp hD sD hpD nD nDp hDD hxl hel hdp hsub hs hF sF nF nFp hi hFF hpp hyl hfl hdq hsub2 hq hv1 g1 e1 k1; omega)), if_pos (by (clear B D_law_draws hr l10 l10' q hd ht hm htt hxm hxt lm lt s1 n1 hp hD sD hpD nD nDp hDD hdp hsub hs hF sF nF nFp hFF hpp hdq hsub2 hq hv1 g1 e1 k1; omega))]
          congr 1
          (clear B D_law_draws hr l10 l10' q hd ht hm htt hxm hxt lm lt s1 n1 hl hp hD sD hpD nD nDp hDD hxl hel hdp hsub hs hF sF nF nFp hi hFF hpp hyl hfl hdq hsub2 hq hv1 g1 e1 k1; omega)
        refine ⟨_, rfl, _, rfl, F, ys, _, i, rfl, rfl, hFF, j, ?_⟩
        refine ⟨fs.set i .opn, ys.set i (.str "open"), _, rfl, upd_same, by rw [upd_ne nFp]; exact hpp, by rw [List.length_set, hyl], by rw [List.length_set, hfl], ?_, sub_set hsub2, same_at hF hq _⟩
        rw [List.map_set]
        exact dpAll_set i (dpTs_up (noLs_map noL_entT fs) hFF hdq) (.str _)
      · exact ⟨fs, ys, _, rfl, hFF, hpp, hyl, hfl, hdq, hsub2, hq⟩
    · obtain ⟨fs, ys, y6, rfl, hFF, hpp, hyl, hfl, hdq, hsub2, hq⟩ := hI
      refine ⟨_, rfl, D, xs, rfl, .inl ⟨SqL.of (hq _ _ hDD), fun t1 ht1 => ?_⟩⟩
      have v1 := same_new ht1 (.tup xs)
      refine ⟨_, rfl, F, ys, rfl, .inl ⟨SqL.of (v1 _ _ hFF), fun t2 ht2 => ⟨sz2_, fun t3 ht3 => ?_⟩⟩⟩
      have v2 := same_new ht2 (.tup ys)
      have v3 := same_new ht3 (.tup [.ref t1, .ref t2])
      refine q (.ref t3) _ ⟨es, fs⟩ (hs.trans (hq.trans (v1.trans (v2.trans v3)))) ⟨by show es.length = _; omega, by show fs.length = _; omega, hsub, hsub2⟩ ?_
      exact .tup (SqT.of upd_same) (.cons (.tup (SqT.of ((v2.trans v3) _ _ upd_same)) (dpAll_same (hq.trans (v1.trans (v2.trans v3))) hdp)) (.cons (.tup (SqT.of (v3 _ _ upd_same)) (dpAll_same (v1.trans (v2.trans v3)) hdq)) .nil))
end
end DP
namespace DP
open PySem PySem.Spec PyProof.Rows L2
abbrev s__law_recording_weight : Stmt := topS 88
theorem sc__law_recording_weight : FnScope ["world", "r", "recording", "base", "weight", "k", "x"] ["world", "r"] (defScope s__law_recording_weight) := ⟨rfl, rfl, rfl, by decide +kernel, rfl, by decide +kernel, by decide +kernel⟩
section
variable {P : Program} {w : World} {K : PySem.W.Frag} {mg : Str → Option Value} {base : Heap} {CL CS CT CR CP CW aS aR fS fT fR fP : Addr}
theorem d_law_recording_weight (T : TxtW K mg CL CS CT CR CP CW aS aR fS fT fR fP) (A : At K mg "_law_recording_weight" s__law_recording_weight ["world", "r"]) : DefOk P w K mg base CX0 1 "_law_recording_weight" ["world", "r"] (spRecW K CS CT CR CP CW) := by
  have B := T.L.B
  refine A.ok sc__law_recording_weight (fun vs H Q E h => ?_) (fun f cdv A outer s H vs Q E hr h => ?_)
  · obtain ⟨ac, W, i, z, rfl, _⟩ := h
    rfl
  obtain ⟨ac, W, i, z, rfl, wok, hW, hz, q⟩ := h
  obtain ⟨dx, t0, t1, t2, t3, x0, x1, x2, x3, gw, _, _, _, _, p2, q2, p3, q3⟩ := hW.ex
  have l2 := paired_len q2
  have l3 := paired_len q3
  have nR := wok.nRecs
  have nP := wok.nPass
  have hi : i < W.recs.length := (List.getElem?_eq_some_iff.mp hz).1
  obtain ⟨x, hx⟩ : ∃ x, x2[i]? = some x := ⟨_, List.getElem?_eq_getElem (by omega)⟩
  obtain ⟨z', hz', ob, od, rfl, o1⟩ := paired_at q2 hx
  rw [hz] at hz'
  have ez := Option.some.inj hz'
  subst ez
  have ok := wok.recs z (List.mem_of_getElem? hz)
  have rk := ok.rank
  have b := base_pos wok
  refine ⟨_, pss_cons (ps_set (i := 2) sc__law_recording_weight.nd rfl (Or.inl rfl) (pe_ix ix_tup (pe_fld (pv 0) rfl) (pv 1) (fun _ _ => rfl)))
  (pss_cons (ps_set (i := 3) sc__law_recording_weight.nd rfl (Or.inl rfl) (pe_op op_add pe_int (pe_callB (call_max2 rfl) (by rfl) B.max (by decide +kernel) (pa_cons (pe_callB (cr_sum rfl) (by rfl) B.sum (by decide +kernel) (pa_cons (pe_lc (own := [("x", 6)])  rfl sc__law_recording_weight.nd (pi_tup (pe_fld (pv 0) rfl)) (blkOk_by (own := [("x", 6)]) (N := ["world", "r", "recording", "base", "weight", "k", "x"]) (sc := defScope s__law_recording_weight) (by decide +kernel)) (fun _ _ _ _ _ => pg_name (i := 6) sc__law_recording_weight.nd rfl (Or.inl rfl)) (fun _ _ _ _ _ => pts_nil) (fun _ _ _ _ _ => (pe_fldK (K := K) rfl (pv 6) rfl))) pa_nil)) (pa_cons (pe_callB (cr_sum rfl) (by rfl) B.sum (by decide +kernel) (pa_cons (pe_lc (own := [("x", 6)])  rfl sc__law_recording_weight.nd (pi_tup (pe_fld (pv 0) rfl)) (blkOk_by (own := [("x", 6)]) (N := ["world", "r", "recording", "base", "weight", "k", "x"]) (sc := defScope s__law_recording_weight) (by decide +kernel)) (fun _ _ _ _ _ => pg_name (i := 6) sc__law_recording_weight.nd rfl (Or.inl rfl)) (fun _ _ _ _ _ => pts_nil) (fun _ _ _ _ _ => (pe_fldK (K := K) rfl (pv 6) rfl))) pa_nil)) pa_nil)))))
  (pss_cons (ps_set (i := 4) sc__law_recording_weight.nd rfl (Or.inl rfl) (pe_fld (pv 2) rfl))
  (pss_cons (ps_for PassesOwn.never rfl (pi_range1 (by rfl) B.range (pa_cons (pe_op op_sub pe_int (pe_fld (pv 2) rfl)) pa_nil)) (pg_name (i := 5) sc__law_recording_weight.nd rfl (Or.inl rfl))
      (pss_one (ps_set (i := 4) sc__law_recording_weight.nd rfl (Or.inl rfl) (pe_op op_mul (pv 4) (pv 3)))))
  (pss_one (ps_ret (pv 4))))))
    , ?_⟩
  refine ⟨_, rfl, ac, CW, dx, _, _, rfl, gw, T.c_World.cl, T.n_World_recordings, lk_World_recordings, _, rfl, t2, x2, (i : Int), _, rfl, rfl, p2, atI_nat hx, ?_⟩
  refine ⟨_, rfl, ac, CW, dx, _, _, rfl, gw, T.c_World.cl, T.n_World_recordings, lk_World_recordings, t2, rfl, ⟨_, p2⟩, fun D hD => lc_tup (K := K) (a := t2) (xs := x2) (fun i H' => Same H H' ∧ H' D = some (.lst (((W.recs.take i).map (·.worth)).map V.int))) ⟨same_new hD _, upd_same⟩ (fun i H' _ hI => Same.tup hI.1 p2) (fun i x H' hx hI => ?_) (fun H1 hI => ?_)⟩
  · obtain ⟨hs, hd⟩ := hI
    obtain ⟨z, hz, ob, od, rfl, o1⟩ := paired_at q2 hx
    exact ⟨rfl, _, rfl, ob, CR, od, _, _, rfl, hs _ _ o1, T.c_Recording.cl, T.n_Recording_worth, lk_Recording_worth, lc_step hz (by omega) hD hs hd⟩
  obtain ⟨s1, hd⟩ := hI
  rw [l2, List.take_length] at hd
  refine ⟨D, W.recs.map (·.worth), rfl, SqL.of hd, ?_⟩
  refine ⟨_, rfl, ac, CW, dx, _, _, rfl, s1 _ _ gw, T.c_World.cl, T.n_World_passes, lk_World_passes, t3, rfl, ⟨_, Same.tup s1 p3⟩, fun F hF => lc_tup (K := K) (a := t3) (xs := x3) (fun i H' => Same H1 H' ∧ H' F = some (.lst (((W.pass.take i).map (·.fee)).map V.int))) ⟨same_new hF _, upd_same⟩ (fun i H' _ hI => Same.tup (s1.trans hI.1) p3) (fun i x H' hx hI => ?_) (fun H2 hI => ?_)⟩
  · obtain ⟨hs, hd⟩ := hI
    obtain ⟨z, hz, pb, pd, ts, rfl, c1, c2⟩ := paired_at q3 hx
    exact ⟨rfl, _, rfl, pb, CP, pd, _, _, rfl, (s1.trans hs) _ _ c1, T.c_Pass.cl, T.n_Pass_fee, lk_Pass_fee, lc_step hz (by (clear T B hr wok hW q gw p2 q2 p3 q3 l2 nR hi hz' o1 ok rk b hD s1 hF hs hd hz hx c1 c2; omega)) hF hs hd⟩
  obtain ⟨s2, hd⟩ := hI
  rw [l3, List.take_length] at hd
  have s12 := s1.trans s2
  refine ⟨F, W.pass.map (·.fee), rfl, SqL.of hd, _, _, rfl, _, _, rfl, rfl, ?_⟩
  refine ⟨_, rfl, ob, CR, od, _, _, rfl, s12 _ _ o1, T.c_Recording.cl, T.n_Recording_worth, lk_Recording_worth, ?_⟩
  refine ⟨_, rfl, ob, CR, od, _, _, rfl, s12 _ _ o1, T.c_Recording.cl, T.n_Recording_rank, lk_Recording_rank, _, _, rfl, rfl, 4 - z.rank, rfl, by (clear T B hr wok hW hz q gw p2 q2 p3 q3 l2 l3 nR nP hi hx hz' o1 ok b hD s1 hF s2 hd s12; omega), by (clear T B hr wok hW hz q gw p2 q2 p3 q3 l2 l3 nR nP hi hx hz' o1 ok b hD s1 hF s2 hd s12; omega), for_range (lo := 0) (n := (4 - z.rank).toNat) (fun j σ H' => ∃ y5, σ = [some (.ref ac), some (.int (i : Int)), some (.ref ob), some (.int (baseW W)), some (.int (z.worth * baseW W ^ j)), y5, none] ∧ H' = H2)
    ⟨none, by rw [Int.pow_zero, Int.mul_one]; rfl, rfl⟩ (fun j σ H' hj hI => ?_) (fun σ H' hI => ?_)⟩
  · obtain ⟨y5, rfl, rfl⟩ := hI
    refine ⟨_, rfl, _, rfl, _, _, rfl, rfl, .inr ⟨by (clear T B hr wok hW hz q gw p2 q2 p3 q3 l2 l3 nR nP hi hx hz' o1 ok rk hD s1 hF hj s2 hd s12; omega), by (clear T B hr wok hW hz q gw p2 q2 p3 q3 l2 l3 nR nP hi hx hz' o1 ok rk hD s1 hF hj s2 hd s12; omega)⟩, some (.int (0 + (j : Int))), ?_, rfl⟩
    rw [Int.pow_succ, ← Int.mul_assoc]
    rfl
  · obtain ⟨y5, rfl, rfl⟩ := hI
    exact ⟨_, rfl, q _ s12⟩
end
end DP
namespace DP
open PySem PySem.Spec PyProof.Rows L2
abbrev s__law_prices : Stmt := topS 90
theorem sc__law_prices : FnScope ["world", "script", "start", "count", "prices", "k", "cell", "price"] ["world", "script", "start", "count"] (defScope s__law_prices) := ⟨rfl, rfl, rfl, by decide +kernel, rfl, by decide +kernel, by decide +kernel⟩
theorem six_ {ds : List Int} (h : ds.length = 6) : ∃ d0 d1 d2 d3 d4 d5, ds = [d0, d1, d2, d3, d4, d5] := match ds, h with | [_, _, _, _, _, _], _ => ⟨_, _, _, _, _, _, rfl⟩
theorem PrOk.nil {W : WorldD} : PrOk W [] := ⟨fun _ h => absurd h List.not_mem_nil, fun _ h => absurd h List.not_mem_nil, Nat.zero_le _⟩
theorem PrOk.snoc {W : WorldD} {l : Prs} {q : RowD × Int} (h : PrOk W l) (h1 : RowOk W q.1) (h2 : 0 ≤ q.2 ∧ q.2 < 2 ^ 60) (h3 : l.length < 100) : PrOk W (l ++ [q]) :=
  ⟨fun p hp => (List.mem_append.mp hp).elim (h.row p) fun z => by rw [List.mem_singleton.mp z]; exact h1, fun p hp => (List.mem_append.mp hp).elim (h.pos p) fun z => by rw [List.mem_singleton.mp z]; exact h2, by rw [List.length_append]; show l.length + 1 ≤ 100; omega⟩
section
variable {P : Program} {w : World} {K : PySem.W.Frag} {mg : Str → Option Value} {base : Heap} {CL CS CT CR CP CW aS aR fS fT fR fP aM : Addr}
def spLPrs (K : PySem.W.Frag) (CS CT CR CP CW : Addr) : Sp := fun vs H Q _ => ∃ (ac a : Addr) (W : WorldD) (ns : List Int) (st n : Int), vs = [.ref ac, .ref a, .int st, .int n] ∧ CG W ∧ WorldAt K CS CT CR CP CW H ac W ∧ SqL K H a (ns.map V.int) ∧ 0 ≤ st ∧ 0 ≤ n ∧ n ≤ 20 ∧
  ∀ (v : V) (l : Prs) (H' : Hp), Same H H' → PrOk W l → (l.length : Int) = n → Dp K H' v (prPy l) → Q v H'
set_option maxHeartbeats 8000000 in
theorem d_law_prices (B : Bt mg) (D_law_cell : DefOk P w K mg base CX0 1 "_law_cell" ["script", "k"] (spCell K)) (D_law_draws : DefOk P w K mg base CX0 1 "_law_draws" ["cell", "count"] spDrawsC) (D_law_row : DefOk P w K mg base CX0 2 "_law_row" ["world", "cell"] (spLawRow K CS CT CR CP CW))
    (A : At K mg "_law_prices" s__law_prices ["world", "script", "start", "count"]) : DefOk P w K mg base CX0 3 "_law_prices" ["world", "script", "start", "count"] (spLPrs K CS CT CR CP CW) := by
  refine A.ok sc__law_prices (fun vs H Q E h => ?_) (fun f cdv A outer s H vs Q E hr h => ?_)
  · obtain ⟨ac, a, W, ns, st, n, rfl, _⟩ := h
    rfl
  obtain ⟨ac, a, W, ns, st, n, rfl, wg, hW, hS, hst, hn0, hn, q⟩ := h
  refine ⟨_, pss_cons (ps_set (i := 4) sc__law_prices.nd rfl (Or.inl rfl) (pe_lst pa_nil))
  (pss_cons (ps_for PassesOwn.never rfl (pi_range1 (by rfl) B.range (pa_cons (pv 3) pa_nil)) (pg_name (i := 5) sc__law_prices.nd rfl (Or.inl rfl))
      (pss_cons (ps_set (i := 6) sc__law_prices.nd rfl (Or.inl rfl) (pe_f D_law_cell (hr.mono (by omega)) pass0 (pa_cons (pv 1) (pa_cons (pe_op op_add (pv 2) (pv 5)) pa_nil))))
      (pss_cons (ps_set (i := 7) sc__law_prices.nd rfl (Or.inl rfl) (pe_op op_mod (pe_ix ix_list (pe_f D_law_draws (hr.mono (by omega)) pass0 (pa_cons (pv 6) (pa_cons pe_int pa_nil))) pe_int (fun _ _ => rfl)) pe_int))
      (pss_cons (ps_if (pt_cmpR op_eq (pe_op op_mod (pe_callTy (call_int1) (by rfl) B.int (by decide +kernel) (pa_cons (pv 6) pa_nil)) pe_int) pe_int (nomark _))
          (pss_one (ps_set (i := 7) sc__law_prices.nd rfl (Or.inl rfl) (pe_op op_add (pe_op op_mul (pv 7) pe_int) (pe_op op_mod (pe_callTy (call_int1) (by rfl) B.int (by decide +kernel) (pa_cons (pv 6) pa_nil)) pe_int))))
          (pss_nil))
      (pss_one (ps_expr (pe_bm PySem.F.plainAttrs_list PySem.F.slot_list_append PySem.F.type_list_append mt_append (pv 4) (pa_cons (pe_tup (pa_cons (pe_f D_law_row (hr.mono (by omega)) pass0 (pa_cons (pv 0) (pa_cons (pv 6) pa_nil))) (pa_cons (pv 7) pa_nil))) pa_nil))))))))
  (pss_one (ps_ret (pe_callTy (call_tuple_of) (by rfl) B.tuple (by decide +kernel) (pa_cons (pv 4) pa_nil)))))
    , ?_⟩
  refine ⟨Nat.zero_le _, fun D hD => ?_⟩
  have sD := same_new hD (.lst [])
  refine ⟨_, rfl, _, rfl, by omega, by omega, for_range (lo := 0) (n := n.toNat) (fun i σ H' => ∃ (l : Prs) (y5 y6 y7 : Option V), σ = [some (.ref ac), some (.ref a), some (.int st), some (.int n), some (.ref D), y5, y6, y7] ∧ Same H H' ∧ DL K prPy1 H' D l ∧ PrOk W l ∧ l.length = i) ⟨[], none, none, none, rfl, sD, DL.nil, PrOk.nil, rfl⟩ (fun i σ H1 hi hI => ?_) (fun σ H1 hI => ?_)⟩
  · obtain ⟨l, y5, y6, y7, rfl, hs, hd, ok, hl⟩ := hI
    refine ⟨_, rfl, _, rfl, _, rfl, _, _, rfl, rfl, a, ns, st + (0 + (i : Int)), rfl, hs.seq hS, by (clear B D_law_cell D_law_draws D_law_row hr wg hW hS hn0 hn q hD sD hi hs hd ok; omega), fun u => ?_⟩
    refine ⟨_, rfl, u, 6, rfl, by decide, fun p ds H2 s2 np hds hp => ?_⟩
    obtain ⟨d0, d1, d2, d3, d4, d5, rfl⟩ := six_ hds
    refine ⟨p, _, 5, _, rfl, rfl, SqL.of hp, rfl, _, _, rfl, rfl, (by show (0 : Int) < _; decide), ?_⟩
    have s12 := hs.trans s2
    have b0 := Int.emod_nonneg d5 (b := 50) (by (clear B D_law_cell D_law_draws D_law_row hr wg hW hS hst hn0 hn q hD sD hi hs hd ok hl s2 np hds hp s12; omega))
    have b1 := Int.emod_lt_of_pos d5 (b := 50) (by (clear B D_law_cell D_law_draws D_law_row hr wg hW hS hst hn0 hn q hD sD hi hs hd ok hl s2 np hds hp s12 b0; omega))
    have c0 := Int.emod_nonneg u (b := 991) (by (clear B D_law_cell D_law_draws D_law_row hr wg hW hS hst hn0 hn q hD sD hi hs hd ok hl s2 np hds hp s12 b0 b1; omega))
    have c1 := Int.emod_lt_of_pos u (b := 991) (by (clear B D_law_cell D_law_draws D_law_row hr wg hW hS hst hn0 hn q hD sD hi hs hd ok hl s2 np hds hp s12 b0 b1 c0; omega))
    have hd2 := hd.same s2
    have go : ∀ pr : Int, 0 ≤ pr → pr < 2 ^ 60 → ∀ (t : Addr) (r : RowD) (H3 : Hp), Same H2 H3 → RowOk W r → SqT K H3 t (rowV r) → ∀ tp, H3 tp = none → ∃ xs, (upd H3 tp (.tup [.ref t, .int pr])) D = some (.lst xs) ∧ xs.length < sizeLine ∧
        (∃ (l : Prs), Same H (upd (upd H3 tp (.tup [.ref t, .int pr])) D (.lst (xs ++ [.ref tp]))) ∧ DL K prPy1 (upd (upd H3 tp (.tup [.ref t, .int pr])) D (.lst (xs ++ [.ref tp]))) D l ∧ PrOk W l ∧ l.length = i + 1) := fun pr h0 h1 t r H3 s3 rok ht tp htp => by
      have sT := same_new htp (.tup [.ref t, .int pr])
      have dv : Dp K (upd H3 tp (.tup [.ref t, .int pr])) (.ref tp) (prPy1 (r, pr)) := .tup (SqT.of upd_same) (.cons (row_dp (Same.tup sT ht)) (.cons (.int _) .nil))
      obtain ⟨xs, g1, g2, g3⟩ := ((hd2.same s3).same sT).push (a := (r, pr)) noL_pr1 dv (by omega)
      exact ⟨xs, g1, g2, l ++ [(r, pr)], same_at hD ((s12.trans s3).trans sT) _, g3, ok.snoc rok ⟨h0, h1⟩ (by omega), by rw [List.length_append]; show l.length + 1 = i + 1; (clear B D_law_cell D_law_draws D_law_row hr wg hW hS hst hn0 hn q hD sD hi hs hd ok s2 np hds hp s12 b0 b1 c0 c1 hd2 h0 h1 s3 rok ht htp sT dv g1 g2 g3; omega)⟩
    obtain ⟨xd, hxd, _⟩ := hd2
    refine ⟨_, rfl, .inl ⟨_, rfl, _, _, rfl, rfl, (by show (0 : Int) < _; decide), rfl, _, rfl, ite2 (fun e1 => ?_) (fun e1 => ?_)⟩⟩
    · refine ⟨_, rfl, _, _, rfl, rfl, .inr ⟨by decide, by decide⟩, _, rfl, .inl ⟨_, rfl, _, _, rfl, rfl, (by show (0 : Int) < _; decide), _, _, rfl, rfl, ?_⟩⟩
      refine ⟨_, rfl, .inl ⟨rfl, _, SqL.of hxd⟩, _, rfl, _, rfl, ac, W, u, rfl, wg, hW.same s12, fun t r H3 s3 rok ht => ⟨_, rfl, sz2_, fun tp htp => ?_⟩⟩
      obtain ⟨xs, g1, g2, l', g3, g4, g5, g6⟩ := go (d5 % 50 * 997 + u % 991) (by (clear B D_law_cell D_law_draws D_law_row hr wg hW hS hst hn0 hn q hD sD hi hs hd ok hl s2 np hds hp s12 b1 c1 go hxd e1 s3 rok ht htp; omega)) (by (clear B D_law_cell D_law_draws D_law_row hr wg hW hS hst hn0 hn q hD sD hi hs hd ok hl s2 np hds hp s12 b1 c1 go hxd e1 s3 rok ht htp; omega)) t r H3 s3 rok ht tp htp
      exact ⟨D, xs, .ref tp, rfl, rfl, g1, g2, l', _, _, _, rfl, g3, g4, g5, g6⟩
    · refine ⟨_, rfl, .inl ⟨rfl, _, SqL.of hxd⟩, _, rfl, _, rfl, ac, W, u, rfl, wg, hW.same s12, fun t r H3 s3 rok ht => ⟨_, rfl, sz2_, fun tp htp => ?_⟩⟩
      obtain ⟨xs, g1, g2, l', g3, g4, g5, g6⟩ := go (d5 % 50) (by omega) (by (clear B D_law_cell D_law_draws D_law_row hr wg hW hS hst hn0 hn q hD sD hi hs hd ok hl s2 np hds hp s12 b1 c0 c1 go hxd e1 s3 rok ht htp; omega)) t r H3 s3 rok ht tp htp
      exact ⟨D, xs, .ref tp, rfl, rfl, g1, g2, l', _, _, _, rfl, g3, g4, g5, g6⟩
  · obtain ⟨l, y5, y6, y7, rfl, hs, hd, ok, hl⟩ := hI
    obtain ⟨xs, h1, h2⟩ := hd
    refine ⟨_, rfl, D, xs, rfl, .inl ⟨SqL.of h1, fun t ht => ?_⟩⟩
    exact q (.ref t) l _ (hs.trans (same_new ht _)) ok (by omega) (.tup (SqT.of upd_same) (dpAll_same (same_new ht _) h2))
end
end DP
namespace DP
open PySem PySem.Spec PyProof.Rows L2
abbrev s__law_gain : Stmt := topS 94
theorem sc__law_gain : FnScope ["world", "divisor", "prices", "r", "option", "cost", "row", "price"] ["world", "divisor", "prices", "r", "option"] (defScope s__law_gain) := ⟨rfl, rfl, rfl, by decide +kernel, rfl, by decide +kernel, by decide +kernel⟩
abbrev s__law_bound : Stmt := topS 95
theorem sc__law_bound : FnScope ["world", "case", "divisor", "prices", "total", "r", "entry", "p", "gain", "row", "price", "option"] ["world", "case", "divisor", "prices"] (defScope s__law_bound) := ⟨rfl, rfl, rfl, by decide +kernel, rfl, by decide +kernel, by decide +kernel⟩
theorem gain_rec {W : WorldD} {r : Nat} {z : RecD} (hz : W.recs[r]? = some z) : (gainsW W).getD r 0 = recW W z := by
  have hi := (List.getElem?_eq_some_iff.mp hz).1
  unfold gainsW
  rw [List.getD_eq_getElem?_getD, List.getElem?_append_left (by rw [List.length_map]; exact hi), List.getElem?_map, hz]
  rfl
theorem gain_pas {W : WorldD} {k : Nat} {z : PasD} (hz : W.pass[k]? = some z) : (gainsW W).getD (W.recs.length + k) 0 = -z.fee := by
  unfold gainsW
  rw [List.getD_eq_getElem?_getD, List.getElem?_append_right (by rw [List.length_map]; omega), List.length_map, show W.recs.length + k - W.recs.length = k by omega, List.getElem?_map, hz]
  rfl
theorem part_rec {W : WorldD} {row : RowD} {r : Nat} {z : RecD} (hz : W.recs[r]? = some z) (s p : Int) : partX W row r (.at_ s p) = recPart W row z s p := by unfold partX; rw [hz]
theorem part_pas {W : WorldD} {row : RowD} {k : Nat} {z : PasD} (hz : W.pass[k]? = some z) (a : Int) : partX W row (W.recs.length + k) (.ant a) = pasPart W row k z := by
  unfold partX
  rw [show W.recs.length + k - W.recs.length = k by omega, hz]
theorem cost_non {W : WorldD} {i : Nat} : ∀ l : Prs, costX W l i .non = 0
  | [] => rfl
  | q :: l => by
    have ih := cost_non (W := W) (i := i) l
    unfold costX at ih ⊢
    rw [List.map_cons, List.sum_cons, ih]
    show q.2 * 0 + 0 = 0
    rw [Int.mul_zero]
    rfl
theorem cnet_non {W : WorldD} {d : Int} {l : Prs} {i : Nat} : cnet W d l i .non = 0 := by
  unfold cnet
  rw [cost_non]
  show d * 0 - 0 = 0
  rw [Int.mul_zero]
  rfl
theorem cnet_rec {W : WorldD} {d : Int} {l : Prs} {r : Nat} {z : RecD} (hz : W.recs[r]? = some z) (s p : Int) : cnet W d l r (.at_ s p) = d * recW W z - (l.map fun q => q.2 * recPart W q.1 z s p).sum := by
  unfold cnet costX
  rw [show worX W r (.at_ s p) = recW W z from gain_rec hz]
  congr 2
  exact List.map_congr_left fun q _ => by rw [part_rec hz]
theorem cnet_pas {W : WorldD} {d : Int} {l : Prs} {k : Nat} {z : PasD} (hz : W.pass[k]? = some z) (a : Int) : cnet W d l (W.recs.length + k) (.ant a) = -d * z.fee - (l.map fun q => q.2 * pasPart W q.1 k z).sum := by
  unfold cnet costX
  rw [show worX W (W.recs.length + k) (.ant a) = -z.fee from gain_pas hz, Int.mul_neg, Int.neg_mul]
  congr 2
  exact List.map_congr_left fun q _ => by rw [part_pas hz]
theorem net_rec_opn {W : WorldD} {d : Int} {l : Prs} {r : Nat} {z : RecD} (hz : W.recs[r]? = some z) : netX W d l r .opn = maxL (0 :: (optsW W z).map fun q => cnet W d l r (.at_ q.1 q.2)) := by
  show maxL ((choX W r).map (cnet W d l r)) = _
  rw [choX_rec hz]
  unfold choR
  rw [List.map_cons, cnet_non, List.map_map]
  rfl
theorem net_pas_opn {W : WorldD} (wok : WorldOk W) {d : Int} {l : Prs} {k : Nat} {z : PasD} (hz : W.pass[k]? = some z) : netX W d l (W.recs.length + k) .opn = if cnet W d l (W.recs.length + k) (.ant 0) > 0 then cnet W d l (W.recs.length + k) (.ant 0) else 0 := by
  have zok := wok.pass z (List.mem_of_getElem? hz)
  obtain ⟨zt, hzt⟩ : ∃ zt, W.stas[z.sta]? = some zt := ⟨_, List.getElem?_eq_getElem zok.sta⟩
  have tok := (wok.stas zt (List.mem_of_getElem? hzt)).antennas
  have ea : antOf W z = zt.antennas := by unfold antOf; rw [hzt]
  have all : ∀ a : Int, cnet W d l (W.recs.length + k) (.ant a) = cnet W d l (W.recs.length + k) (.ant 0) := fun a => by rw [cnet_pas hz, cnet_pas hz]
  show maxL ((choX W (W.recs.length + k)).map (cnet W d l (W.recs.length + k))) = _
  rw [choX_pas hz]
  unfold choP
  rw [List.map_cons, cnet_non, List.map_map]
  have mem : ∀ y, y ∈ (List.range (antOf W z).toNat).map (cnet W d l (W.recs.length + k) ∘ fun (j : Nat) => EntX.ant (j : Int)) → y = cnet W d l (W.recs.length + k) (.ant 0) := fun y hy => by
    obtain ⟨j, _, rfl⟩ := List.mem_map.mp hy
    exact all _
  have one : cnet W d l (W.recs.length + k) (.ant 0) ∈ (List.range (antOf W z).toNat).map (cnet W d l (W.recs.length + k) ∘ fun (j : Nat) => EntX.ant (j : Int)) := List.mem_map.mpr ⟨0, List.mem_range.mpr (by rw [ea]; omega), all _⟩
  refine (maxL_of ?_ ?_).symm
  · by_cases c : cnet W d l (W.recs.length + k) (.ant 0) > 0
    · rw [if_pos c]; exact List.mem_cons_of_mem _ one
    · rw [if_neg c]; exact List.mem_cons_self
  · intro y hy
    rcases List.mem_cons.mp hy with rfl | hy
    · split <;> omega
    · rw [mem y hy]; split <;> (clear wok hz zok hzt tok ea all mem one hy; omega)
def sumN (W : WorldD) (d : Int) (l : Prs) (es : List EntX) (n : Nat) : Int := ((List.range n).map fun i => netX W d l i (es.getD i .non)).sum
theorem sumN_succ (W : WorldD) (d : Int) (l : Prs) (es : List EntX) (n : Nat) : sumN W d l es (n + 1) = sumN W d l es n + netX W d l n (es.getD n .non) := by
  unfold sumN
  rw [List.range_succ, List.map_append, List.sum_append]
  show _ + (netX W d l n (es.getD n .non) + 0) = _
  rw [Int.add_zero]
theorem ents_m {c : CaseD} {i : Nat} {e : EntM} (h : c.made[i]? = some e) : (entsX c)[i]? = some (mX e) := by
  have hi := (List.getElem?_eq_some_iff.mp h).1
  unfold entsX
  rw [List.getElem?_append_left (by rw [List.length_map]; exact hi), List.getElem?_map, h]
  rfl
theorem ents_t {c : CaseD} {i : Nat} {e : EntT} (h : c.taken[i]? = some e) : (entsX c)[c.made.length + i]? = some (tX e) := by
  unfold entsX
  rw [List.getElem?_append_right (by rw [List.length_map]; omega), List.length_map, show c.made.length + i - c.made.length = i by omega, List.getElem?_map, h]
  rfl
section
variable {P : Program} {w : World} {K : PySem.W.Frag} {mg : Str → Option Value} {base : Heap} {CL CS CT CR CP CW aS aR fS fT fR fP aM : Addr}
def spGain (K : PySem.W.Frag) (CS CT CR CP CW : Addr) : Sp := fun vs H Q _ => ∃ (ac u : Addr) (W : WorldD) (d : Int) (vp : V) (l : Prs) (r : Nat) (z : RecD) (st p : Int), vs = [.ref ac, .int d, vp, .int (r : Int), .ref u] ∧ WorldOk W ∧ WorldAt K CS CT CR CP CW H ac W ∧ (1 ≤ d ∧ d < 2 ^ 60) ∧ PrOk W l ∧ Dp K H vp (prPy l) ∧ W.recs[r]? = some z ∧ SqT K H u [.int st, .int p] ∧ 0 ≤ p ∧ p < (W.pass.length : Int) ∧
  ∀ H', Same H H' → Q (.int (cnet W d l r (.at_ st p))) H'
set_option maxHeartbeats 8000000 in
theorem d_law_gain (B : Bt mg) (D_law_recording_part : DefOk P w K mg base CX0 1 "_law_recording_part" ["world", "row", "r", "option"] (spLRec K CS CT CR CP CW)) (D_law_recording_weight : DefOk P w K mg base CX0 1 "_law_recording_weight" ["world", "r"] (spRecW K CS CT CR CP CW))
    (A : At K mg "_law_gain" s__law_gain ["world", "divisor", "prices", "r", "option"]) : DefOk P w K mg base CX0 2 "_law_gain" ["world", "divisor", "prices", "r", "option"] (spGain K CS CT CR CP CW) := by
  refine A.ok sc__law_gain (fun vs H Q E h => ?_) (fun f cdv A outer s H vs Q E hr h => ?_)
  · obtain ⟨ac, u, W, d, vp, l, r, z, st, p, rfl, _⟩ := h
    rfl
  obtain ⟨ac, u, W, d, vp, l, r, z, st, p, rfl, wok, hW, hd, ok, hvp, hz, hu, p0, p1, q⟩ := h
  obtain ⟨tp, xs, rfl, ht, hx⟩ := dp_tup hvp
  have lx := dpAll_len hx
  rw [List.length_map] at lx
  have l100 := ok.len
  refine ⟨_, pss_cons (ps_set (i := 5) sc__law_gain.nd rfl (Or.inl rfl) (pe_callB (cr_sum rfl) (by rfl) B.sum (by decide +kernel) (pa_cons (pe_lc (own := [("row", 6), ("price", 7)])  rfl sc__law_gain.nd (pi_tup (pv 2)) (blkOk_by (own := [("row", 6), ("price", 7)]) (N := ["world", "divisor", "prices", "r", "option", "cost", "row", "price"]) (sc := defScope s__law_gain) (by decide +kernel)) (fun _ _ _ _ _ => pg_tupK (K := K) (n := 2) rfl (by rfl) (pgs_cons (pg_name (i := 6) sc__law_gain.nd rfl (Or.inl rfl)) (pgs_cons (pg_name (i := 7) sc__law_gain.nd rfl (Or.inl rfl)) (pgs_nil)))) (fun _ _ _ _ _ => pts_nil) (fun _ _ _ _ _ => (pe_op op_mul (pv 7) (pe_f D_law_recording_part (hr.mono (by omega)) pass0 (pa_cons (pv 0) (pa_cons (pv 6) (pa_cons (pv 3) (pa_cons (pv 4) pa_nil)))))))) pa_nil)))
  (pss_one (ps_ret (pe_op op_sub (pe_op op_mul (pv 1) (pe_f D_law_recording_weight (hr.mono (by omega)) pass0 (pa_cons (pv 0) (pa_cons (pv 3) pa_nil)))) (pv 5))))
    , ?_⟩
  refine ⟨_, rfl, tp, rfl, ⟨_, ht⟩, fun D hD => lc_tup (K := K) (a := tp) (xs := xs) (fun j H' => Same H H' ∧ H' D = some (.lst (((l.take j).map fun q => q.2 * recPart W q.1 z st p).map V.int))) ⟨same_new hD _, upd_same⟩ (fun j H' _ h => Same.tup h.1 ht) (fun j v H1 hv hI => ?_) (fun H1 hI => ?_)⟩
  · obtain ⟨hs, hDD⟩ := hI
    obtain ⟨qr, hq, dq⟩ := dpAll_get hx hv
    obtain ⟨v, t, rfl, hv2, htt⟩ := dp_pr1 dq
    have hm := List.mem_of_getElem? hq
    have hpos := ok.pos _ hm
    refine ⟨v, _, rfl, Same.tup hs hv2, rfl, _, _, rfl, _, _, rfl, rfl, rfl, _, rfl, _, rfl, _, rfl, _, rfl, _, rfl, ac, t, u, W, qr.1, r, z, st, p, rfl, hW.same hs, Same.tup hs htt, ok.row _ hm, hz, Same.tup hs hu, p0, p1, ?_⟩
    exact ⟨_, _, rfl, rfl, .inl ⟨by (clear B D_law_recording_part D_law_recording_weight hr wok hW hd ok hz hu p0 p1 q hvp ht hx lx l100 hD hs hDD hq hv dq hv2 htt hm; omega), by (clear B D_law_recording_part D_law_recording_weight hr wok hW hd ok hz hu p0 p1 q hvp ht hx lx l100 hD hs hDD hq hv dq hv2 htt hm; omega)⟩, lc_step (f := fun q => q.2 * recPart W q.1 z st p) hq (by (clear B D_law_recording_part D_law_recording_weight hr wok hW hd ok hz hu p0 p1 q hvp ht hx hD hs hDD hq hv dq hv2 htt hm hpos; omega)) hD hs hDD⟩
  obtain ⟨hs, hDD⟩ := hI
  rw [lx, List.take_length] at hDD
  refine ⟨D, _, rfl, SqL.of hDD, _, rfl, _, rfl, _, rfl, ac, W, r, z, rfl, wok, hW.same hs, hz, fun H2 s2 => ?_⟩
  have := q _ (hs.trans s2)
  rw [cnet_rec hz] at this
  exact ⟨_, _, rfl, rfl, .inl ⟨by omega, by omega⟩, _, rfl, _, _, rfl, rfl, this⟩
def spLBnd (K : PySem.W.Frag) (CS CT CR CP CW : Addr) : Sp := fun vs H Q _ => ∃ (ac : Addr) (W : WorldD) (d : Int) (v vp : V) (l : Prs) (c : CaseD), vs = [.ref ac, v, .int d, vp] ∧ WorldOk W ∧ WorldAt K CS CT CR CP CW H ac W ∧ (1 ≤ d ∧ d < 2 ^ 60) ∧ PrOk W l ∧ Dp K H vp (prPy l) ∧ Dp K H v (casePy c) ∧ EntsOk W c ∧
  ∀ H', Same H H' → Q (.int (boundX W d l (entsX c))) H'
set_option maxHeartbeats 16000000 in
theorem d_law_bound (T : TxtW K mg CL CS CT CR CP CW aS aR fS fT fR fP) (D_law_right : DefOk P w K mg base CX0 1 "_law_right" ["world", "row"] (spLRight K CS CT CR CP CW)) (D_law_gain : DefOk P w K mg base CX0 2 "_law_gain" ["world", "divisor", "prices", "r", "option"] (spGain K CS CT CR CP CW)) (D_law_options : DefOk P w K mg base CX0 1 "_law_options" ["world", "r"] (spOptC K CS CT CR CP CW))
    (D_law_pass_part : DefOk P w K mg base CX0 1 "_law_pass_part" ["world", "row", "p"] (spLPas K CS CT CR CP CW)) (A : At K mg "_law_bound" s__law_bound ["world", "case", "divisor", "prices"]) : DefOk P w K mg base CX0 3 "_law_bound" ["world", "case", "divisor", "prices"] (spLBnd K CS CT CR CP CW) := by
  have B := T.L.B
  refine A.ok sc__law_bound (fun vs H Q E h => ?_) (fun f cdv A outer s H vs Q E hr h => ?_)
  · obtain ⟨ac, W, d, v, vp, l, c, rfl, _⟩ := h
    rfl
  obtain ⟨ac, W, d, v, vp, l, c, rfl, wok, hW, hd, ok, hvp, hv, eok, q⟩ := h
  obtain ⟨tp, xs, rfl, htp, hx⟩ := dp_tup hvp
  have lx := dpAll_len hx
  rw [List.length_map] at lx
  have l100 := ok.len
  obtain ⟨t, tm, tt, xm, xt, rfl, ht, hm, htt, hxm, hxt, lm, lt⟩ := case_two hv
  have nR := wok.nRecs
  have nP := wok.nPass
  have eM := eok.nM
  have eT := eok.nT
  refine ⟨_, pss_cons (ps_set (i := 4) sc__law_bound.nd rfl (Or.inl rfl) (pe_callB (cr_sum rfl) (by rfl) B.sum (by decide +kernel) (pa_cons (pe_lc (own := [("row", 9), ("price", 10)])  rfl sc__law_bound.nd (pi_tup (pv 3)) (blkOk_by (own := [("row", 9), ("price", 10)]) (N := ["world", "case", "divisor", "prices", "total", "r", "entry", "p", "gain", "row", "price", "option"]) (sc := defScope s__law_bound) (by decide +kernel)) (fun _ _ _ _ _ => pg_tupK (K := K) (n := 2) rfl (by rfl) (pgs_cons (pg_name (i := 9) sc__law_bound.nd rfl (Or.inl rfl)) (pgs_cons (pg_name (i := 10) sc__law_bound.nd rfl (Or.inl rfl)) (pgs_nil)))) (fun _ _ _ _ _ => pts_nil) (fun _ _ _ _ _ => (pe_op op_mul (pv 10) (pe_f D_law_right (hr.mono (by (clear T D_law_right D_law_gain D_law_options D_law_pass_part B hr wok hW hd ok eok q hvp htp hx lx l100 hv ht hm htt hxm hxt lm lt nR nP eM eT; omega))) pass0 (pa_cons (pv 0) (pa_cons (pv 9) pa_nil)))))) pa_nil)))
  (pss_cons (ps_for PassesOwn.never rfl (pi_enumT (by rfl) B.enumerate (pa_cons (pe_ix ix_tup (pv 1) pe_int (fun _ _ => rfl)) pa_nil)) (pg_tup (by rfl) (pgs_cons (pg_name (i := 5) sc__law_bound.nd rfl (Or.inr rfl)) (pgs_cons (pg_name (i := 6) sc__law_bound.nd rfl (Or.inl rfl)) (pgs_nil))))
      (pss_one (ps_if (pt_cmpR (op_eqD hr.units) (pv 6) pe_str (nomark _))
          (pss_one (ps_set (i := 4) sc__law_bound.nd rfl (Or.inl rfl) (pe_op op_add (pv 4) (pe_callB (cr_max rfl) (by rfl) B.max (by decide +kernel) (pa_cons (pe_op op_cat (pe_lst (pa_cons pe_int pa_nil)) (pe_lc (own := [("option", 11)])  rfl sc__law_bound.nd (pi_list (pe_f D_law_options (hr.mono (by (clear T D_law_right D_law_gain D_law_options D_law_pass_part B hr wok hW hd ok eok q hvp htp hx lx l100 hv ht hm htt hxm hxt lm lt nR nP eM eT; omega))) pass0 (pa_cons (pv 0) (pa_cons (pv 5) pa_nil)))) (blkOk_by (own := [("option", 11)]) (N := ["world", "case", "divisor", "prices", "total", "r", "entry", "p", "gain", "row", "price", "option"]) (sc := defScope s__law_bound) (by decide +kernel)) (fun _ _ _ _ _ => pg_name (i := 11) sc__law_bound.nd rfl (Or.inl rfl)) (fun _ _ _ _ _ => pts_nil) (fun _ _ _ _ _ => (pe_f D_law_gain (hr.mono (by (clear T D_law_right D_law_gain D_law_options D_law_pass_part B hr wok hW hd ok eok q hvp htp hx lx l100 hv ht hm htt hxm hxt lm lt nR nP eM eT; omega))) pass0 (pa_cons (pv 0) (pa_cons (pv 2) (pa_cons (pv 3) (pa_cons (pv 5) (pa_cons (pv 11) pa_nil))))))))) pa_nil)))))
          (pss_one (ps_if (pt_cmpR op_notN (pv 6) pe_non (nomark _))
              (pss_one (ps_set (i := 4) sc__law_bound.nd rfl (Or.inl rfl) (pe_op op_add (pv 4) (pe_f D_law_gain (hr.mono (by (clear T D_law_right D_law_gain D_law_options D_law_pass_part B hr wok hW hd ok eok q hvp htp hx lx l100 hv ht hm htt hxm hxt lm lt nR nP eM eT; omega))) pass0 (pa_cons (pv 0) (pa_cons (pv 2) (pa_cons (pv 3) (pa_cons (pv 5) (pa_cons (pv 6) pa_nil)))))))))
              (pss_nil))))))
  (pss_cons (ps_for PassesOwn.never rfl (pi_enumT (by rfl) B.enumerate (pa_cons (pe_ix ix_tup (pv 1) pe_int (fun _ _ => rfl)) pa_nil)) (pg_tup (by rfl) (pgs_cons (pg_name (i := 7) sc__law_bound.nd rfl (Or.inr rfl)) (pgs_cons (pg_name (i := 6) sc__law_bound.nd rfl (Or.inl rfl)) (pgs_nil))))
      (pss_one (ps_if (pt_cmpR op_notN (pv 6) pe_non (nomark _))
          (pss_cons (ps_set (i := 8) sc__law_bound.nd rfl (Or.inl rfl) (pe_op op_mul (pe_un un_neg (pv 2)) (pe_fld (pe_ix ix_tup (pe_fld (pv 0) rfl) (pv 7) (fun _ _ => rfl)) rfl)))
          (pss_cons (ps_set (i := 8) sc__law_bound.nd rfl (Or.inl rfl) (pe_op op_sub (pv 8) (pe_callB (cr_sum rfl) (by rfl) B.sum (by decide +kernel) (pa_cons (pe_lc (own := [("row", 9), ("price", 10)])  rfl sc__law_bound.nd (pi_tup (pv 3)) (blkOk_by (own := [("row", 9), ("price", 10)]) (N := ["world", "case", "divisor", "prices", "total", "r", "entry", "p", "gain", "row", "price", "option"]) (sc := defScope s__law_bound) (by decide +kernel)) (fun _ _ _ _ _ => pg_tupK (K := K) (n := 2) rfl (by rfl) (pgs_cons (pg_name (i := 9) sc__law_bound.nd rfl (Or.inl rfl)) (pgs_cons (pg_name (i := 10) sc__law_bound.nd rfl (Or.inl rfl)) (pgs_nil)))) (fun _ _ _ _ _ => pts_nil) (fun _ _ _ _ _ => (pe_op op_mul (pv 10) (pe_f D_law_pass_part (hr.mono (by (clear T D_law_right D_law_gain D_law_options D_law_pass_part B hr wok hW hd ok eok q hvp htp hx lx l100 hv ht hm htt hxm hxt lm lt nR nP eM eT; omega))) pass0 (pa_cons (pv 0) (pa_cons (pv 9) (pa_cons (pv 7) pa_nil))))))) pa_nil))))
          (pss_cons (ps_if (pt_cmpR (op_eqD hr.units) (pv 6) pe_str (nomark _))
              (pss_one (ps_set (i := 8) sc__law_bound.nd rfl (Or.inl rfl) (pe_callB (call_max2 rfl) (by rfl) B.max (by decide +kernel) (pa_cons pe_int (pa_cons (pv 8) pa_nil)))))
              (pss_nil))
          (pss_one (ps_set (i := 4) sc__law_bound.nd rfl (Or.inl rfl) (pe_op op_add (pv 4) (pv 8)))))))
          (pss_nil))))
  (pss_one (ps_ret (pv 4)))))
    , ?_⟩
  refine ⟨_, rfl, tp, rfl, ⟨_, htp⟩, fun D hD => lc_tup (K := K) (a := tp) (xs := xs) (fun j H' => Same H H' ∧ H' D = some (.lst (((l.take j).map fun q => q.2 * rightW W q.1).map V.int))) ⟨same_new hD _, upd_same⟩ (fun j H' _ h => Same.tup h.1 htp) (fun j v H1 hv hI => ?_) (fun H1 hI => ?_)⟩
  · obtain ⟨hs, hDD⟩ := hI
    obtain ⟨qr, hq, dq⟩ := dpAll_get hx hv
    obtain ⟨v, u, rfl, hv2, huu⟩ := dp_pr1 dq
    have hmem := List.mem_of_getElem? hq
    have hpos := ok.pos _ hmem
    refine ⟨v, _, rfl, Same.tup hs hv2, rfl, _, _, rfl, _, _, rfl, rfl, rfl, _, rfl, _, rfl, _, rfl, ac, u, W, qr.1, rfl, wok, hW.same hs, Same.tup hs huu, ok.row _ hmem, fun H2 s2 => ?_⟩
    exact ⟨_, _, rfl, rfl, .inl ⟨by (clear T D_law_right D_law_gain D_law_options D_law_pass_part B hr wok hW hd ok eok q hvp htp hx lx l100 ht hm htt hxm hxt lm lt nR nP eM eT hD hs hDD hq hv dq hv2 huu hmem s2; omega), by (clear T D_law_right D_law_gain D_law_options D_law_pass_part B hr wok hW hd ok eok q hvp htp hx lx l100 ht hm htt hxm hxt lm lt nR nP eM eT hD hs hDD hq hv dq hv2 huu hmem s2; omega)⟩, lc_step (f := fun q => q.2 * rightW W q.1) hq (by (clear T D_law_right D_law_gain D_law_options D_law_pass_part B hr wok hW hd ok eok q hvp htp hx ht hm htt hxm hxt lm lt nR nP eM eT hD hs hDD hq hv dq hv2 huu hmem hpos s2; omega)) hD (hs.trans s2) (s2 _ _ hDD)⟩
  obtain ⟨s1, hDD⟩ := hI
  rw [lx, List.take_length] at hDD
  refine ⟨D, _, rfl, SqL.of hDD, ?_⟩
  refine ⟨_, rfl, t, _, 0, _, rfl, rfl, Same.tup s1 ht, rfl, tm, xm, rfl, Same.tup s1 hm, ?_⟩
  refine for_it (walk_enumT (xs := xm)) (fun i σ H' => ∃ y5 y6, σ = [some (.ref ac), some (.ref t), some (.int d), some (.ref tp), some (.int (rightsX W l + sumN W d l (entsX c) i)), y5, y6, none, none, none, none, none] ∧ Same H H') ⟨none, none, by rw [show sumN W d l (entsX c) 0 = 0 from rfl, Int.add_zero]; rfl, s1⟩ (fun i σ H' _ hI => ?_) (fun i u σ H1 H2 hi hI hy => ?_) (fun σ H1 hI => ?_)
  · obtain ⟨y5, y6, rfl, hs⟩ := hI
    exact Same.tup hs hm
  · obtain ⟨y5, y6, rfl, hs⟩ := hI
    obtain ⟨tq, u, rfl, htq, rfl, hu⟩ := hy
    obtain ⟨e, he, de⟩ := dpAll_get hxm hu
    obtain ⟨z, hz⟩ : ∃ z, W.recs[i]? = some z := ⟨_, List.getElem?_eq_getElem (by (clear T D_law_right D_law_gain D_law_options D_law_pass_part B hr wok hW hd ok eok q hvp htp hx lx l100 hv ht hm htt hxm hxt lt nR nP eT hD s1 hDD hs htq hu he de; omega))⟩
    have sT := same_new htq (.tup [.int (0 + (i : Nat)), u])
    refine ⟨tq, _, rfl, SqT.of upd_same, rfl, _, _, rfl, _, _, rfl, rfl, ?_⟩
    generalize upd H1 tq (.tup [.int (0 + (i : Nat)), u]) = H3 at sT
    have s3 := hs.trans sT
    have de3 := dp_same s3 de
    have ge : (entsX c).getD i .non = mX e := by rw [List.getD_eq_getElem?_getD, ents_m he]; rfl
    have nx : ∀ m, m = netX W d l i (mX e) → rightsX W l + sumN W d l (entsX c) i + m = rightsX W l + sumN W d l (entsX c) (i + 1) := fun m hm => by rw [sumN_succ, ge, hm, Int.add_assoc]
    cases e with
    | opn =>
      refine ⟨_, rfl, _, _, de3, .str _, by decide +kernel, by decide +kernel, _, rfl, iteT' (by decide +kernel) ?_⟩
      refine ⟨_, rfl, (by show 1 ≤ sizeLine; decide), fun l0 hl0 => ?_⟩
      have s4 := s3.trans (same_new hl0 (.lst [.int 0]))
      have hl04 : (upd H3 l0 (.lst [V.int 0])) l0 = some (.lst [.int 0]) := upd_same
      generalize upd H3 l0 (.lst [V.int 0]) = H4 at s4 hl04
      refine ⟨_, rfl, _, rfl, ac, W, i, z, (by rw [Int.zero_add]; rfl), wok, hW.same s4, hz, fun lo ys H5 s5 nlo hlo hsp => ⟨lo, rfl, ⟨_, SqL.of hlo⟩, fun F hF => ?_⟩⟩
      have lys := paired_len hsp
      have lo210 := optsW_len wok (wok.recs z (List.mem_of_getElem? hz))
      have s45 := s4.trans s5
      have om0 : ∀ q ∈ optsW W z, 0 ≤ q.2 ∧ q.2 < (W.pass.length : Int) := fun q hq => (optsW_mem (wok.recs z (List.mem_of_getElem? hz)) hq).2.2
      have em0 := net_rec_opn (d := d) (l := l) hz
      generalize optsW W z = os at hsp lys lo210 om0 em0
      refine lc_list (K := K) (a := lo) (xs := ys) (fun j H' => Same H5 H' ∧ H' F = some (.lst ((((os).take j).map fun q => cnet W d l i (.at_ q.1 q.2)).map V.int))) ⟨same_new hF _, upd_same⟩ (fun j H' _ h => SqL.of (h.1 _ _ hlo)) (fun j v H6 hv6 hI6 => ?_) (fun H6 hI6 => ?_)
      · obtain ⟨h6, hFF⟩ := hI6
        obtain ⟨q, hq, u2, rfl, hu2⟩ := paired_at hsp hv6
        have om := om0 _ (List.mem_of_getElem? hq)
        have s06 := s45.trans h6
        refine ⟨rfl, _, rfl, _, rfl, _, rfl, _, rfl, _, rfl, ac, u2, W, d, .ref tp, l, i, z, q.1, q.2, (by rw [Int.zero_add]; rfl), wok, hW.same s06, hd, ok, dp_same s06 hvp, hz, Same.tup h6 hu2, om.1, om.2, fun H7 s7 => ?_⟩
        obtain ⟨acc, r1, r2, r3, r4⟩ := lc_step (f := fun q => cnet W d l i (.at_ q.1 q.2)) hq (by (clear T D_law_right D_law_gain D_law_options D_law_pass_part B hr wok hW hd ok eok hvp htp hx lx l100 hv ht hm htt hxm hxt lm lt nR nP eM eT hD s1 hDD hi hs htq hu hz sT s3 he de de3 ge nx hl0 s4 hl04 s5 nlo hlo hF s45 hsp om0 em0 h6 hFF hq hu2 hv6 om s06 s7; omega)) hF (h6.trans s7) (s7 _ _ hFF)
        exact ⟨acc, r1, r2, r3, r4⟩
      obtain ⟨h6, hFF⟩ := hI6
      rw [lys, List.take_length] at hFF
      have s56 := s5.trans h6
      refine ⟨l0, F, _, _, rfl, rfl, s56 _ _ hl04, hFF, Nat.le_trans (show _ ≤ 300 by rw [List.length_map, List.length_map]; show 1 + (os).length ≤ 300; (clear T D_law_right D_law_gain D_law_options D_law_pass_part B hr wok hW hd ok eok q hvp htp hx lx l100 hv ht hm htt hxm hxt lm lt nR nP eM eT hD s1 hDD hi hs htq hu hz sT s3 he de de3 ge nx hl0 s4 hl04 s5 nlo hlo hF s45 hsp om0 em0 h6 hFF s56; omega)) (show 300 ≤ sizeLine by decide), fun m hm => ?_⟩
      have sm := same_new hm (.lst ([V.int 0] ++ ((os).map fun q => cnet W d l i (.at_ q.1 q.2)).map V.int))
      refine ⟨m, 0 :: (os).map fun q => cnet W d l i (.at_ q.1 q.2), rfl, SqL.of upd_same, Nat.zero_lt_succ _, fun mx hmx hle => ?_⟩
      refine ⟨_, _, rfl, rfl, ?_⟩
      have em := (maxL_of hmx hle).trans em0.symm
      exact ⟨some (.int (0 + (i : Int))), some u, by rw [← nx mx em]; rfl, (s4.trans s56).trans sm⟩
    | non =>
      cases de3
      refine ⟨_, rfl, _, _, .non, .str _, by decide +kernel, by decide +kernel, _, rfl, iteF' (by decide +kernel) ?_⟩
      refine ⟨_, rfl, rfl, _, rfl, iteF' rfl ?_⟩
      have h0 := nx 0 (cnet_non).symm
      rw [Int.add_zero] at h0
      exact ⟨some (.int (0 + (i : Int))), some .non, by rw [← h0]; rfl, s3⟩
    | at_ sa pa =>
      have ee := eok.ok i _ (ents_m he)
      have eo : EntOk W i (.at_ sa pa) := ee.elim id fun z => nomatch z
      obtain ⟨ub, us, rfl, hub, hux⟩ := dp_tup de3
      have eux := dp_ints (ns := [sa, pa]) hux
      subst eux
      refine ⟨_, rfl, _, _, de3, .str _, shp_entX (.at_ sa pa), by decide +kernel, _, rfl, iteF' (eqv_opn (.at_ sa pa)) ?_⟩
      refine ⟨_, rfl, rfl, _, rfl, iteT' rfl ?_⟩
      refine ⟨_, rfl, _, rfl, _, rfl, _, rfl, _, rfl, _, rfl, ac, ub, W, d, .ref tp, l, i, z, sa, pa, (by rw [Int.zero_add]; rfl), wok, hW.same s3, hd, ok, dp_same s3 hvp, hz, hub, eo.2.1, eo.2.2, fun H7 s7 => ?_⟩
      refine ⟨_, _, rfl, rfl, ?_⟩
      exact ⟨some (.int (0 + (i : Int))), some (.ref ub), by rw [← nx _ rfl]; rfl, s3.trans s7⟩
  · obtain ⟨y5, y6, rfl, hs⟩ := hI
    refine ⟨_, rfl, t, _, 1, _, rfl, rfl, Same.tup hs ht, rfl, tt, xt, rfl, Same.tup hs htt, ?_⟩
    rw [lm, eM]
    refine for_it (walk_enumT (xs := xt)) (fun i σ H' => ∃ y5 y6 y7 y8, σ = [some (.ref ac), some (.ref t), some (.int d), some (.ref tp), some (.int (rightsX W l + sumN W d l (entsX c) (W.recs.length + i))), y5, y6, y7, y8, none, none, none] ∧ Same H H') ⟨y5, y6, none, none, rfl, hs⟩ (fun i σ H' _ hI => ?_) (fun i u σ H2 H3 hi hI hy => ?_) (fun σ H2 hI => ?_)
    · obtain ⟨y5, y6, y7, y8, rfl, hs⟩ := hI
      exact Same.tup hs htt
    · obtain ⟨y5, y6, y7, y8, rfl, hs⟩ := hI
      obtain ⟨tq, u, rfl, htq, rfl, hu⟩ := hy
      obtain ⟨e, he, de⟩ := dpAll_get hxt hu
      obtain ⟨z, hz⟩ : ∃ z, W.pass[i]? = some z := ⟨_, List.getElem?_eq_getElem (by (clear T D_law_right D_law_gain D_law_options D_law_pass_part B hr wok hW hd ok eok q hvp htp hx lx l100 hv ht hm htt hxm hxt lm nR nP eM hD s1 hDD hs htq hu he de; omega))⟩
      have sT := same_new htq (.tup [.int (0 + (i : Nat)), u])
      refine ⟨tq, _, rfl, SqT.of upd_same, rfl, _, _, rfl, _, _, rfl, rfl, ?_⟩
      generalize upd H2 tq (.tup [.int (0 + (i : Nat)), u]) = H4 at sT
      have s4 := hs.trans sT
      have de4 := dp_same s4 de
      have ge : (entsX c).getD (W.recs.length + i) .non = tX e := by rw [List.getD_eq_getElem?_getD, ← eM, ents_t he]; rfl
      have nx : ∀ m, m = netX W d l (W.recs.length + i) (tX e) → rightsX W l + sumN W d l (entsX c) (W.recs.length + i) + m = rightsX W l + sumN W d l (entsX c) (W.recs.length + (i + 1)) := fun m hm => by rw [show W.recs.length + (i + 1) = W.recs.length + i + 1 from rfl, sumN_succ, ge, hm, Int.add_assoc]
      obtain ⟨dx, t0, t1, t2, t3, x0, x1, x2, x3, gw, j0, q0, j1, q1, j2, q2, j3, q3⟩ := (hW.same s4).ex
      obtain ⟨pb, pd, ts, hpb, c1, c2⟩ := rw_pas q3 hz
      have hpb' : atI x3 (0 + (i : Int)) = some (.ref pb) := by rw [Int.zero_add]; exact atI_nat hpb
      have cg := cnet_pas (d := d) (l := l) hz
      by_cases hn : e = .non
      · subst hn
        cases de4
        have h0 := nx 0 (cnet_non).symm
        rw [Int.add_zero] at h0
        exact ⟨_, rfl, rfl, _, rfl, iteF' rfl ⟨y5, some .non, some (.int (0 + (i : Int))), y8, by rw [← h0]; rfl, s4⟩⟩
      have un : decide (u = V.non) = false := by
        rw [non_entX (e := tX e) (by rw [entX_t]; exact de4)]
        cases e with
        | non => exact absurd rfl hn
        | opn => rfl
        | ant a => rfl
      refine ⟨_, rfl, rfl, _, rfl, iteT' (by rw [un]; rfl) ?_⟩
      refine ⟨_, rfl, _, rfl, _, rfl, ac, CW, dx, _, _, rfl, gw, T.c_World.cl, T.n_World_passes, lk_World_passes, _, rfl, t3, x3, _, _, rfl, rfl, j3, hpb', pb, CP, pd, _, _, rfl, c1, T.c_Pass.cl, T.n_Pass_fee, lk_Pass_fee, _, _, rfl, rfl, .inl ⟨by omega, by omega⟩, ?_⟩
      refine ⟨_, rfl, _, rfl, tp, rfl, ⟨_, Same.tup s4 htp⟩, fun F hF => lc_tup (K := K) (a := tp) (xs := xs) (fun j H' => Same H4 H' ∧ H' F = some (.lst (((l.take j).map fun q => q.2 * pasPart W q.1 i z).map V.int))) ⟨same_new hF _, upd_same⟩ (fun j H' _ h => Same.tup (s4.trans h.1) htp) (fun j v H5 hv5 hI5 => ?_) (fun H5 hI5 => ?_)⟩
      · obtain ⟨h5, hFF⟩ := hI5
        obtain ⟨qr, hq, dq⟩ := dpAll_get hx hv5
        obtain ⟨v, ub, rfl, hv2, huu⟩ := dp_pr1 dq
        have hmem := List.mem_of_getElem? hq
        have hpos := ok.pos _ hmem
        have s45 := s4.trans h5
        refine ⟨v, _, rfl, Same.tup s45 hv2, rfl, _, _, rfl, _, _, rfl, rfl, rfl, _, rfl, _, rfl, _, rfl, _, rfl, ac, ub, W, qr.1, i, z, (by rw [Int.zero_add]; rfl), wok, hW.same s45, Same.tup s45 huu, ok.row _ hmem, hz, ?_⟩
        exact ⟨_, _, rfl, rfl, .inl ⟨by (clear T D_law_right D_law_gain D_law_options D_law_pass_part B hr wok hW hd ok eok q hvp htp hx lx l100 hv ht hm htt hxm hxt lm lt nR nP eM eT hD s1 hDD hi hs htq hu he de hz sT s4 de4 ge nx gw j0 q0 j1 q1 j2 q2 j3 q3 hpb c1 c2 hpb' cg hn un hF h5 hFF hq hv5 dq hv2 huu hmem s45; omega), by (clear T D_law_right D_law_gain D_law_options D_law_pass_part B hr wok hW hd ok eok q hvp htp hx lx l100 hv ht hm htt hxm hxt lm lt nR nP eM eT hD s1 hDD hi hs htq hu he de hz sT s4 de4 ge nx gw j0 q0 j1 q1 j2 q2 j3 q3 hpb c1 c2 hpb' cg hn un hF h5 hFF hq hv5 dq hv2 huu hmem s45; omega)⟩, lc_step (f := fun q => q.2 * pasPart W q.1 i z) hq (by (clear T D_law_right D_law_gain D_law_options D_law_pass_part B hr wok hW hd ok eok q hvp htp hx hv ht hm htt hxm hxt lm lt nR nP eM eT hD s1 hDD hi hs htq hu he de hz sT s4 de4 ge nx gw j0 q0 j1 q1 j2 q2 j3 q3 hpb c1 c2 hpb' cg hn un hF h5 hFF hq hv5 dq hv2 huu hmem hpos s45; omega)) hF h5 hFF⟩
      obtain ⟨h5, hFF⟩ := hI5
      rw [lx, List.take_length] at hFF
      have s5 := s4.trans h5
      have de5 := dp_same h5 de4
      refine ⟨F, _, rfl, SqL.of hFF, _, _, rfl, rfl, ?_⟩
      cases e with
      | non => exact absurd rfl hn
      | opn =>
        refine ⟨_, rfl, _, _, de5, .str _, by decide +kernel, by decide +kernel, _, rfl, iteT' (by decide +kernel) ?_⟩
        refine ⟨_, rfl, _, _, rfl, ?_⟩
        refine ⟨_, rfl, _, rfl, _, _, rfl, rfl, ?_⟩
        have hz2 := nx _ (net_pas_opn wok (d := d) (l := l) hz).symm
        rw [cg] at hz2
        exact ⟨y5, some u, some (.int (0 + (i : Int))), some (.int (if -d * z.fee - (l.map fun q => q.2 * pasPart W q.1 i z).sum > 0 then -d * z.fee - (l.map fun q => q.2 * pasPart W q.1 i z).sum else 0)), by rw [← hz2]; rfl, s5⟩
      | ant a =>
        refine ⟨_, rfl, _, _, de5, .str _, rfl, by decide +kernel, _, rfl, iteF' rfl ?_⟩
        refine ⟨_, rfl, _, rfl, _, _, rfl, rfl, ?_⟩
        have hz2 := nx _ (show cnet W d l (W.recs.length + i) (.ant a) = netX W d l (W.recs.length + i) (tX (.ant a)) from rfl)
        rw [cg] at hz2
        exact ⟨y5, some u, some (.int (0 + (i : Int))), some (.int (-d * z.fee - (l.map fun q => q.2 * pasPart W q.1 i z).sum)), by rw [← hz2]; rfl, s5⟩
    · obtain ⟨y5, y6, y7, y8, rfl, hs⟩ := hI
      have := q _ hs
      unfold boundX at this
      rw [ents_len eok, gains_len] at this
      rw [lt, eT]
      exact ⟨_, rfl, this⟩
end
end DP
namespace DP
open PySem PySem.Spec PyProof.Rows L2
abbrev s_law : Stmt := topS 97
theorem sc_law : FnScope ["script", "world", "case", "prices", "divisor"] ["script"] (defScope s_law) := ⟨rfl, rfl, rfl, by decide +kernel, rfl, by decide +kernel, by decide +kernel⟩
theorem ents_draw {W : WorldD} {c c' : CaseD} (dg : DrawG W c) (sc : SubC c c') : EntsOk W c' := by
  have nM := dg.cg.nM
  have nT := dg.cg.nT
  refine ⟨by rw [sc.nM, nM], by rw [sc.nT, nT], fun i e he => ?_⟩
  by_cases h : i < c'.made.length
  · obtain ⟨a, ha⟩ : ∃ a, c'.made[i]? = some a := ⟨_, List.getElem?_eq_getElem h⟩
    have := ents_m ha
    rw [he] at this
    have e1 := Option.some.inj this
    subst e1
    obtain ⟨b, hb⟩ : ∃ b, c.made[i]? = some b := ⟨_, List.getElem?_eq_getElem (by have := sc.nM; omega)⟩
    rcases sc.m i b a hb ha with rfl | rfl
    · have mo := dg.cg.mOk _ (List.mem_of_getElem? hb)
      cases a with
      | non => exact .inl trivial
      | opn => exact .inr rfl
      | at_ s p => exact .inl ⟨by have := sc.nM; omega, mo.2.2.1, mo.2.2.2⟩
    · exact .inr rfl
  · obtain ⟨k, rfl⟩ : ∃ k, i = c'.made.length + k := ⟨i - c'.made.length, by (clear dg sc nM nT he; omega)⟩
    have hl : c'.made.length + k < (entsX c').length := (List.getElem?_eq_some_iff.mp he).1
    have el : (entsX c').length = c'.made.length + c'.taken.length := by unfold entsX; simp
    obtain ⟨a, ha⟩ : ∃ a, c'.taken[k]? = some a := ⟨_, List.getElem?_eq_getElem (by (clear dg sc nM nT he h; omega))⟩
    have := ents_t ha
    rw [he] at this
    have e1 := Option.some.inj this
    subst e1
    cases a with
    | non => exact .inl trivial
    | opn => exact .inr rfl
    | ant x => exact .inl ⟨by have := sc.nM; omega, by have := sc.nM; have := sc.nT; show c'.made.length + k < W.recs.length + W.pass.length; omega⟩
section
variable {P : Program} {w : World} {K : PySem.W.Frag} {mg : Str → Option Value} {base : Heap} {CL CS CT CR CP CW aS aR fS fT fR fP aM : Addr}
def spLaw (K : PySem.W.Frag) : Sp := fun vs H Q _ => ∃ (a : Addr) (ns : List Int), vs = [.ref a] ∧ SqL K H a (ns.map V.int) ∧ ∀ H', Q (.bl true) H'
set_option maxHeartbeats 8000000 in
theorem d_law (T : TxtW K mg CL CS CT CR CP CW aS aR fS fT fR fP) (D_law_cell : DefOk P w K mg base CX0 1 "_law_cell" ["script", "k"] (spCell K)) (D_law_world : DefOk P w K mg base CX0 8 "_law_world" ["script"] (spWorldC K CS CT CR CP CW)) (D_law_drawn : DefOk P w K mg base CX0 2 "_law_drawn" ["world", "cell"] (spDrawn K CS CT CR CP CW)) (D_law_case : DefOk P w K mg base CX0 2 "_law_case" ["plan", "cell"] (spCaseC K))
    (D_law_prices : DefOk P w K mg base CX0 3 "_law_prices" ["world", "script", "start", "count"] (spLPrs K CS CT CR CP CW)) (D_bound : DefOk P w K mg base CX0 8 "bound" ["world", "case", "divisor", "prices"] (spBound K CS CT CR CP CW)) (D_law_bound : DefOk P w K mg base CX0 3 "_law_bound" ["world", "case", "divisor", "prices"] (spLBnd K CS CT CR CP CW))
    (A : At K mg "law" s_law ["script"]) : DefOk P w K mg base CX0 9 "law" ["script"] (spLaw K) := by
  have B := T.L.B
  refine A.ok sc_law (fun vs H Q E h => ?_) (fun f cdv A outer s H vs Q E hr h => ?_)
  · obtain ⟨a, ns, rfl, _⟩ := h
    rfl
  obtain ⟨a, ns, rfl, hS, q⟩ := h
  refine ⟨_, pss_cons (ps_set (i := 1) sc_law.nd rfl (Or.inl rfl) (pe_f D_law_world (hr.mono (by omega)) pass0 (pa_cons (pv 0) pa_nil)))
  (pss_cons (ps_set (i := 2) sc_law.nd rfl (Or.inl rfl) (pe_f D_law_case (hr.mono (by omega)) pass0 (pa_cons (pe_f D_law_drawn (hr.mono (by omega)) pass0 (pa_cons (pv 1) (pa_cons (pe_f D_law_cell (hr.mono (by omega)) pass0 (pa_cons (pv 0) (pa_cons pe_int pa_nil))) pa_nil))) (pa_cons (pe_f D_law_cell (hr.mono (by omega)) pass0 (pa_cons (pv 0) (pa_cons pe_int pa_nil))) pa_nil))))
  (pss_cons (ps_set (i := 3) sc_law.nd rfl (Or.inl rfl) (pe_f D_law_prices (hr.mono (by omega)) pass0 (pa_cons (pv 1) (pa_cons (pv 0) (pa_cons pe_int (pa_cons (pe_op op_mod (pe_callTy (call_int1) (by rfl) B.int (by decide +kernel) (pa_cons (pe_f D_law_cell (hr.mono (by omega)) pass0 (pa_cons (pv 0) (pa_cons pe_int pa_nil))) pa_nil)) pe_int) pa_nil))))))
  (C8.pss_cut (ps_if (PW.pt (pw_and (pt_cmpR op_gt (pe_callB (call_len_seq) (by rfl) B.len (by decide +kernel) (pa_cons (pv 3) pa_nil)) pe_int (nomark _)) (pw_and1 (pt_cmpR op_eq (pe_op op_mod (pe_callTy (call_int1) (by rfl) B.int (by decide +kernel) (pa_cons (pe_f D_law_cell (hr.mono (by omega)) pass0 (pa_cons (pv 0) (pa_cons pe_int pa_nil))) pa_nil)) pe_int) pe_int (nomark _)))))
      (pss_one (ps_set (i := 3) sc_law.nd rfl (Or.inl rfl) (pe_op op_catT (pv 3) (pe_tup (pa_cons (pe_ix ix_tup (pv 3) pe_int (fun _ _ => rfl)) pa_nil)))))
      (pss_nil))
  (pss_cons (ps_set (i := 4) sc_law.nd rfl (Or.inl rfl) (pe_op op_add pe_int (pe_op op_mod (pe_op op_fdiv (pe_callTy (call_int1) (by rfl) B.int (by decide +kernel) (pa_cons (pe_f D_law_cell (hr.mono (by omega)) pass0 (pa_cons (pv 0) (pa_cons pe_int pa_nil))) pa_nil)) pe_int) pe_int)))
  (pss_one (ps_ret (pe_cmpR op_eq (pe_f D_bound (hr.mono (by omega)) pass0 (pa_cons (pv 1) (pa_cons (pv 2) (pa_cons (pv 4) (pa_cons (pv 3) pa_nil))))) (pe_f D_law_bound (hr.mono (by omega)) pass0 (pa_cons (pv 1) (pa_cons (pv 2) (pa_cons (pv 4) (pa_cons (pv 3) pa_nil))))) (nomark _))))))))
    , ?_⟩
  refine ⟨_, rfl, a, ns, rfl, hS, fun ac W H1 s1 wg hW => ?_⟩
  have wok := wg.ok
  refine ⟨_, rfl, _, rfl, a, ns, 20, rfl, s1.seq hS, by decide, fun u1 => ⟨ac, W, u1, rfl, wok, hW, fun v0 H2 c0 s2 dg hv0 => ?_⟩⟩
  have s12 := s1.trans s2
  have cg := dg.cg
  refine ⟨_, rfl, a, ns, 21, rfl, s12.seq hS, by decide, fun u2 => ⟨v0, c0, u2, rfl, hv0, by rw [cg.nM]; have := wok.nRecs; exact this, by rw [cg.nT]; exact wok.nPass, fun v H3 c s3 sc hv => ?_⟩⟩
  have s13 := s12.trans s3
  have hW3 := (hW.same s2).same s3
  have eok := ents_draw dg sc
  refine ⟨_, rfl, _, rfl, _, rfl, a, ns, 22, rfl, s13.seq hS, by decide, fun u3 => ?_⟩
  refine .inl ⟨_, rfl, _, _, rfl, rfl, (by show (0 : Int) < _; decide), ac, a, W, ns, 24, u3 % 9, rfl, wg, hW3, s13.seq hS, by decide, Int.emod_nonneg _ (by omega), by have := Int.emod_lt_of_pos u3 (b := 9) (by omega); omega, fun vp l H4 s4 ok hl hvp => ?_⟩
  have l8 : l.length ≤ 8 := by have := Int.emod_lt_of_pos u3 (b := 9) (by omega); omega
  have s14 := s13.trans s4
  refine ⟨fun σ' H' => ∃ vp' l', σ' = [some (.ref a), some (.ref ac), some v, some vp', none] ∧ Same H4 H' ∧ PrOk W l' ∧ Dp K H' vp' (prPy l'), ?_, fun σ' H5 h => ?_⟩
  · have hvp0 := hvp
    obtain ⟨tp, xs, rfl, htp, hx⟩ := dp_tup hvp
    have lx := dpAll_len hx
    rw [List.length_map] at lx
    refine ⟨_, rfl, tp, xs, rfl, .inr htp, _, _, rfl, rfl, _, rfl, ite2 (fun e1 => ?_) (fun e1 => ?_)⟩
    · refine ⟨_, rfl, a, ns, 23, rfl, s14.seq hS, by decide, fun u4 => .inl ⟨_, rfl, _, _, rfl, rfl, (by show (0 : Int) < _; decide), rfl, _, rfl, ite2 (fun e2 => ?_) (fun e2 => ?_)⟩⟩
      · match l, xs, hx, ok, lx with
        | [], [], .nil, _, _ => exact absurd (show (decide ((([] : List V).length : Int) > 1)) = true from e1) (by decide)
        | q0 :: l', x0 :: xs', .cons h0 hx', ok, lx =>
          refine ⟨_, rfl, _, rfl, tp, _, 0, _, rfl, rfl, htp, atI_nat (j := 0) rfl, (by show 1 ≤ sizeLine; decide), fun u hu => ?_⟩
          have su := same_new hu (.tup [x0])
          have hu4 : SqT K (upd H4 u (.tup [x0])) u [x0] := SqT.of upd_same
          generalize upd H4 u (.tup [x0]) = H5 at su hu4
          refine ⟨tp, u, _, _, rfl, rfl, Same.tup su htp, hu4, (fun h => nomatch h), Nat.le_trans (show _ ≤ 100 by show (x0 :: xs').length + 1 ≤ 100; omega) (show 100 ≤ sizeLine by decide), (fun h => nomatch h), fun _ y hy => ?_⟩
          have sy := su.trans (same_new hy (.tup ((x0 :: xs') ++ [x0])))
          refine ⟨.ref y, (q0 :: l') ++ [q0], rfl, sy, ok.snoc (ok.row _ List.mem_cons_self) (ok.pos _ List.mem_cons_self) (by omega), .tup (SqT.of upd_same) ?_⟩
          rw [List.map_append]
          exact dpAll_app (dpAll_same sy (.cons h0 hx')) (.cons (dp_same sy h0) .nil)
      · exact ⟨_, l, rfl, Same.refl _, ok, hvp0⟩
    · exact ⟨_, l, rfl, Same.refl _, ok, hvp0⟩
  · obtain ⟨vp', l', rfl, s5, ok', hvp'⟩ := h
    have s15 := s14.trans s5
    refine ⟨_, rfl, a, ns, 23, rfl, s15.seq hS, by decide, fun u5 => .inl ⟨_, rfl, _, _, rfl, rfl, ⟨by decide, by decide⟩, _, _, rfl, rfl, (by show (0 : Int) < _; decide), _, _, rfl, rfl, ?_⟩⟩
    have d0 := Int.emod_nonneg (u5 / 3) (b := 9) (by omega)
    have d1 := Int.emod_lt_of_pos (u5 / 3) (b := 9) (by (clear T D_law_cell D_law_world D_law_drawn D_law_case D_law_prices D_bound D_law_bound B hr hS q s1 wg hW wok s2 dg hv0 s12 cg s3 sc hv s13 hW3 eok s4 ok hl hvp l8 s14 s5 ok' hvp' s15 d0; omega))
    have hW5 := (hW3.same s4).same s5
    have hv5 := dp_same (s4.trans s5) hv
    refine ⟨_, rfl, _, rfl, _, rfl, _, rfl, ac, W, 1 + u5 / 3 % 9, v, vp', l', c, rfl, wok, hW5, ⟨by (clear T D_law_cell D_law_world D_law_drawn D_law_case D_law_prices D_bound D_law_bound B hr hS q s1 wg hW wok s2 dg hv0 s12 cg s3 sc hv s13 hW3 eok s4 ok hl hvp l8 s14 s5 ok' hvp' s15 d1 hW5 hv5; omega), by (clear T D_law_cell D_law_world D_law_drawn D_law_case D_law_prices D_bound D_law_bound B hr hS q s1 wg hW wok s2 dg hv0 s12 cg s3 sc hv s13 hW3 eok s4 ok hl hvp l8 s14 s5 ok' hvp' s15 d1 hW5 hv5; omega)⟩, ok', hvp', hv5, eok, fun H6 s6 => ?_⟩
    refine ⟨_, rfl, _, rfl, _, rfl, _, rfl, ac, W, 1 + u5 / 3 % 9, v, vp', l', c, rfl, wok, hW5.same s6, ⟨by (clear T D_law_cell D_law_world D_law_drawn D_law_case D_law_prices D_bound D_law_bound B hr hS q s1 wg hW wok s2 dg hv0 s12 cg s3 sc hv s13 hW3 eok s4 ok hl hvp l8 s14 s5 ok' hvp' s15 d1 hW5 hv5 s6; omega), by (clear T D_law_cell D_law_world D_law_drawn D_law_case D_law_prices D_bound D_law_bound B hr hS q s1 wg hW wok s2 dg hv0 s12 cg s3 sc hv s13 hW3 eok s4 ok hl hvp l8 s14 s5 ok' hvp' s15 d1 hW5 hv5 s6; omega)⟩, ok', dp_same s6 hvp', dp_same s6 hv5, eok, fun H7 s7 => ?_⟩
    refine ⟨rfl, ?_⟩
    rw [decide_eq_true rfl]
    exact q _
end
end DP
namespace DP
open PySem PySem.Spec PyProof.Rows L2
section
variable {h : Heap} {K : PySem.W.Frag} {mg : Str → Option Value} {x m qual : Str} {st : Stmt} {ps : List Str} {C f p T : Addr} {oc oc' kV doc pm cdv ct : Value} {od od' an : Option Addr} {osl osl' : Array (Option Value)} {rest : List Value}
theorem cls_mk (X : K.In h) (G : h.Ns mainGlobals mg) (g : PySem.W.nsIn K mainGlobals x = some (some (.ref C))) (pg : PySem.W.plainGet K C Str.empty = true) (hd : PySem.W.hasDictIn K C = true) (po : PySem.W.plainOver K C = true)
    (sa : PySem.W.findIn K (.ref C) "__setattr__" = some (some (.builtin "object.__setattr__"))) (mk : PySem.W.makesIn K C = true) (kp : PySem.W.keepIn K (.ref C) = true) : ClsAt K mg x C := ⟨⟨pg, hd, po, sa⟩, mk, kp, PySem.W.mg_of X G g⟩
theorem met_mk (a : PySem.W.findIn K (.ref C) m = some (some (.ref f))) (i : PySem.W.isFn K (.ref f) = true) (l : K.lookup f = some ⟨oc, od, .func (PySem.W.fnOf m qual (defArgs st) (defBody st) (defScope st) .none kV doc pm an cdv ct), osl⟩)
    (c : PySem.W.codeIn K cdv qual = true) (k : PySem.W.keepIn K (.ref f) = true)
    (hb : ∀ (kV doc pm : Value) (an : Option Addr) (cdv ct : Value) (us : List Value), us.length = ps.length → bindArgs (PySem.W.fnOf m qual (defArgs st) (defBody st) (defScope st) .none kV doc pm an cdv ct) ⟨us, []⟩ = pure (ps.zip us)) : MAt K C m qual st ps := by
  have F := fun_mk (st := st) l c k
  exact ⟨f, _, F, ⟨a, i, k⟩, F.binds hb⟩
/-- one default, an int -/
theorem metD_mk {d : Int} {t : Tok} {n : Nat} (a : PySem.W.findIn K (.ref C) m = some (some (.ref f))) (i : PySem.W.isFn K (.ref f) = true) (l : K.lookup f = some ⟨oc, od, .func (PySem.W.fnOf m qual (defArgs st) (defBody st) (defScope st) (.ref T) kV doc pm an cdv ct), osl⟩)
    (lT : K.lookup T = some ⟨oc', od', .seq #[.int d t] n, osl'⟩)
    (c : PySem.W.codeIn K cdv qual = true) (k : PySem.W.keepIn K (.ref f) = true) (j : Nat) (hn : j + 1 = ps.length)
    (hb : ∀ (T : Addr) (kV doc pm : Value) (an : Option Addr) (cdv ct : Value) (us its : List Value), us.length = j → its.length = 1 →
      ∃ k, bindArgs (PySem.W.fnOf m qual (defArgs st) (defBody st) (defScope st) (.ref T) kV doc pm an cdv ct) ⟨us, []⟩ = seqItems? (.ref T) >>= k ∧ k (some its.toArray) = pure (ps.zip (us ++ its.drop 0))) : MAtD K C m qual st ps [.int d] := by
  have F : FunD K m qual (defArgs st) (defBody st) (defScope st) [.int d] [] f (PySem.W.fnOf m qual (defArgs st) (defBody st) (defScope st) (.ref T) kV doc pm an cdv ct) :=
    ⟨⟨oc, od, .ref T, kV, doc, pm, an, cdv, ct, osl, rfl, l, c, .inr ⟨List.cons_ne_nil _ _, T, _, [.int d t], n, rfl, lT, rfl, .cons ⟨t, rfl⟩ .nil⟩, .inl rfl⟩, k⟩
  obtain ⟨ds, v, b⟩ := F.binds1 (ps := ps) j 0 (List.cons_ne_nil _ _) hn hb
  exact ⟨f, _, ds, F, ⟨a, i, k⟩, b, v⟩
theorem smet_mk (a : PySem.W.findCls K (.ref C) (.type "type") m = some (.get (.builtin "staticmethod.__get__") (.ref p) .none (.ref C))) (r : PySem.W.recIn K p "staticmethod" = some (.ref f :: rest))
    (l : K.lookup f = some ⟨oc, od, .func (PySem.W.fnOf m qual (defArgs st) (defBody st) (defScope st) .none kV doc pm an cdv ct), osl⟩)
    (c : PySem.W.codeIn K cdv qual = true) (k : PySem.W.keepIn K (.ref f) = true)
    (hb : ∀ (kV doc pm : Value) (an : Option Addr) (cdv ct : Value) (us : List Value), us.length = ps.length → bindArgs (PySem.W.fnOf m qual (defArgs st) (defBody st) (defScope st) .none kV doc pm an cdv ct) ⟨us, []⟩ = pure (ps.zip us)) : SAt K C m qual st ps := by
  have F := fun_mk (st := st) l c k
  exact ⟨f, _, F, ⟨p, rest, a, r⟩, F.binds hb⟩
theorem int_mk {i : Int} {t : Tok} (X : K.In h) (G : h.Ns mainGlobals mg) (g : PySem.W.nsIn K mainGlobals x = some (some (.int i t))) : ∃ t, mg x = some (.int i t) := ⟨t, PySem.W.mg_of X G g⟩
theorem str_mk {z : Str} {t : Tok} (X : K.In h) (G : h.Ns mainGlobals mg) (g : PySem.W.nsIn K mainGlobals x = some (some (.str z t))) : ∃ t, mg x = some (.str z t) := ⟨t, PySem.W.mg_of X G g⟩
theorem cval_mk {i : Int} {t : Tok} (g : PySem.W.findCls K (.ref C) (.type "type") x = some (.val (.int i t))) : ∃ t, ClX.CVal K C (.type "type") x (.int i) (.int i t) := ⟨t, g, ⟨t, rfl⟩⟩
theorem tup4s_mk {a b c d : Str} {t0 t1 t2 t3 : Tok} {n : Nat} (l : K.lookup T = some ⟨.type "tuple", none, .seq #[.str a t0, .str b t1, .str c t2, .str d t3] n, osl⟩) : ∀ H, SqT K H T (([a, b, c, d]).map V.str) := fun H =>
  .inr ⟨_, _, _, l, rfl, rfl, by show 4 ≤ sizeLine; exact sz4_, .cons ⟨_, rfl⟩ (.cons ⟨_, rfl⟩ (.cons ⟨_, rfl⟩ (.cons ⟨_, rfl⟩ .nil)))⟩
theorem tup4r_mk {a b c d : Addr} {n : Nat} (l : K.lookup T = some ⟨.type "tuple", none, .seq #[.ref a, .ref b, .ref c, .ref d] n, osl⟩) : ∀ H, SqT K H T [.ref a, .ref b, .ref c, .ref d] := fun H =>
  .inr ⟨_, _, _, l, rfl, rfl, by show 4 ≤ sizeLine; exact sz4_, .cons rfl (.cons rfl (.cons rfl (.cons rfl .nil)))⟩
theorem tupk_mk {its : Array Value} {n : Nat} (l : K.lookup T = some ⟨.type "tuple", none, .seq its n, osl⟩) : ∃ o, K.lookup T = some o ∧ o.cls = .type "tuple" ∧ o.dict = none := ⟨_, l, rfl, rfl⟩
end
end DP
namespace DP
open PySem PySem.Spec PyProof.Rows L2
structure PF (K : PySem.W.Frag) (mg : Str → Option Value) (CL CS CT CR CP CW : Addr) : Prop where
  p_names_of : At K mg "names_of" s_names_of ["things"]
  p_read_light : At K mg "read_light" s_read_light ["line", "horizon"]
  p_read_satellite : At K mg "read_satellite" s_read_satellite ["line", "horizon", "things"]
  p_read_station : At K mg "read_station" s_read_station ["line", "_", "things"]
  p_read_recording : At K mg "read_recording" s_read_recording ["line", "horizon", "things"]
  p_read_pass : At K mg "read_pass" s_read_pass ["line", "horizon", "things"]
  p_most_things : At K mg "most_things" s_most_things ["sort"]
  p_read_sort : At K mg "read_sort" s_read_sort ["line", "ahead", "things"]
  p_read_things : At K mg "read_things" s_read_things ["lines", "horizon"]
  p_lines_of : At K mg "lines_of" s_lines_of ["text"]
  p_is_name : At K mg "is_name" s_is_name ["word"]
  p_is_number : At K mg "is_number" s_is_number ["word"]
  p_Line___init__ : MAt K CL "__init__" "Line.__init__" s_Line___init__ ["self", "number", "row"]
  p_Line_has_more : MAt K CL "has_more" "Line.has_more" s_Line_has_more ["self"]
  p_Line_due : MAt K CL "due" "Line.due" s_Line_due ["self"]
  p_Line_step : MAt K CL "step" "Line.step" s_Line_step ["self"]
  p_Line_read_choice : MAt K CL "read_choice" "Line.read_choice" s_Line_read_choice ["self", "choices"]
  p_Line_read_number : MAt K CL "read_number" "Line.read_number" s_Line_read_number ["self", "least", "most"]
  p_Line_read_field : MAt K CL "read_field" "Line.read_field" s_Line_read_field ["self", "word", "least", "most"]
  p_Line_due_name : MAt K CL "due_name" "Line.due_name" s_Line_due_name ["self"]
  p_Line_read_new_name : MAt K CL "read_new_name" "Line.read_new_name" s_Line_read_new_name ["self", "used"]
  p_Line_read_known_name : MAtD K CL "read_known_name" "Line.read_known_name" s_Line_read_known_name ["self", "names", "least"] [.int 0]
  p_Line_finish : MAt K CL "finish" "Line.finish" s_Line_finish ["self"]
  p_Satellite___init__ : MAt K CS "__init__" "Satellite.__init__" s_Satellite___init__ ["self", "name", "store", "battery", "start_level", "reserve", "charge", "settle", "light"]
  p_Station___init__ : MAt K CT "__init__" "Station.__init__" s_Station___init__ ["self", "name", "antennas", "turn"]
  p_Recording___init__ : MAt K CR "__init__" "Recording.__init__" s_Recording___init__ ["self", "name", "satellite", "earliest", "latest", "length", "size", "energy", "worth", "rank", "deadline"]
  p_Pass___init__ : MAt K CP "__init__" "Pass.__init__" s_Pass___init__ ["self", "name", "satellite", "station", "span", "room", "energy", "fee"]
  p_World___init__ : MAt K CW "__init__" "World.__init__" s_World___init__ ["self", "text", "horizon", "things"]
  p_World_parse : SAt K CW "parse" "World.parse" s_World_parse ["text"]
theorem hb_names_of : ∀ (kV doc pm : Value) (an : Option Addr) (cdv ct : Value) (us : List Value), us.length = (["things"] : List Str).length → bindArgs (PySem.W.fnOf "names_of" "names_of" (defArgs s_names_of) (defBody s_names_of) (defScope s_names_of) .none kV doc pm an cdv ct) ⟨us, []⟩ = pure ((["things"] : List Str).zip us) :=
  fun _ _ _ _ _ _ us hl => match us, hl with | [_], _ => rfl
theorem hb_read_light : ∀ (kV doc pm : Value) (an : Option Addr) (cdv ct : Value) (us : List Value), us.length = (["line", "horizon"] : List Str).length → bindArgs (PySem.W.fnOf "read_light" "read_light" (defArgs s_read_light) (defBody s_read_light) (defScope s_read_light) .none kV doc pm an cdv ct) ⟨us, []⟩ = pure ((["line", "horizon"] : List Str).zip us) :=
  fun _ _ _ _ _ _ us hl => match us, hl with | [_, _], _ => rfl
theorem hb_read_satellite : ∀ (kV doc pm : Value) (an : Option Addr) (cdv ct : Value) (us : List Value), us.length = (["line", "horizon", "things"] : List Str).length → bindArgs (PySem.W.fnOf "read_satellite" "read_satellite" (defArgs s_read_satellite) (defBody s_read_satellite) (defScope s_read_satellite) .none kV doc pm an cdv ct) ⟨us, []⟩ = pure ((["line", "horizon", "things"] : List Str).zip us) :=
  fun _ _ _ _ _ _ us hl => match us, hl with | [_, _, _], _ => rfl
theorem hb_read_station : ∀ (kV doc pm : Value) (an : Option Addr) (cdv ct : Value) (us : List Value), us.length = (["line", "_", "things"] : List Str).length → bindArgs (PySem.W.fnOf "read_station" "read_station" (defArgs s_read_station) (defBody s_read_station) (defScope s_read_station) .none kV doc pm an cdv ct) ⟨us, []⟩ = pure ((["line", "_", "things"] : List Str).zip us) :=
  fun _ _ _ _ _ _ us hl => match us, hl with | [_, _, _], _ => rfl
theorem hb_read_recording : ∀ (kV doc pm : Value) (an : Option Addr) (cdv ct : Value) (us : List Value), us.length = (["line", "horizon", "things"] : List Str).length → bindArgs (PySem.W.fnOf "read_recording" "read_recording" (defArgs s_read_recording) (defBody s_read_recording) (defScope s_read_recording) .none kV doc pm an cdv ct) ⟨us, []⟩ = pure ((["line", "horizon", "things"] : List Str).zip us) :=
  fun _ _ _ _ _ _ us hl => match us, hl with | [_, _, _], _ => rfl
theorem hb_read_pass : ∀ (kV doc pm : Value) (an : Option Addr) (cdv ct : Value) (us : List Value), us.length = (["line", "horizon", "things"] : List Str).length → bindArgs (PySem.W.fnOf "read_pass" "read_pass" (defArgs s_read_pass) (defBody s_read_pass) (defScope s_read_pass) .none kV doc pm an cdv ct) ⟨us, []⟩ = pure ((["line", "horizon", "things"] : List Str).zip us) :=
  fun _ _ _ _ _ _ us hl => match us, hl with | [_, _, _], _ => rfl
theorem hb_most_things : ∀ (kV doc pm : Value) (an : Option Addr) (cdv ct : Value) (us : List Value), us.length = (["sort"] : List Str).length → bindArgs (PySem.W.fnOf "most_things" "most_things" (defArgs s_most_things) (defBody s_most_things) (defScope s_most_things) .none kV doc pm an cdv ct) ⟨us, []⟩ = pure ((["sort"] : List Str).zip us) :=
  fun _ _ _ _ _ _ us hl => match us, hl with | [_], _ => rfl
theorem hb_read_sort : ∀ (kV doc pm : Value) (an : Option Addr) (cdv ct : Value) (us : List Value), us.length = (["line", "ahead", "things"] : List Str).length → bindArgs (PySem.W.fnOf "read_sort" "read_sort" (defArgs s_read_sort) (defBody s_read_sort) (defScope s_read_sort) .none kV doc pm an cdv ct) ⟨us, []⟩ = pure ((["line", "ahead", "things"] : List Str).zip us) :=
  fun _ _ _ _ _ _ us hl => match us, hl with | [_, _, _], _ => rfl
theorem hb_read_things : ∀ (kV doc pm : Value) (an : Option Addr) (cdv ct : Value) (us : List Value), us.length = (["lines", "horizon"] : List Str).length → bindArgs (PySem.W.fnOf "read_things" "read_things" (defArgs s_read_things) (defBody s_read_things) (defScope s_read_things) .none kV doc pm an cdv ct) ⟨us, []⟩ = pure ((["lines", "horizon"] : List Str).zip us) :=
  fun _ _ _ _ _ _ us hl => match us, hl with | [_, _], _ => rfl
theorem hb_lines_of : ∀ (kV doc pm : Value) (an : Option Addr) (cdv ct : Value) (us : List Value), us.length = (["text"] : List Str).length → bindArgs (PySem.W.fnOf "lines_of" "lines_of" (defArgs s_lines_of) (defBody s_lines_of) (defScope s_lines_of) .none kV doc pm an cdv ct) ⟨us, []⟩ = pure ((["text"] : List Str).zip us) :=
  fun _ _ _ _ _ _ us hl => match us, hl with | [_], _ => rfl
theorem hb_is_name : ∀ (kV doc pm : Value) (an : Option Addr) (cdv ct : Value) (us : List Value), us.length = (["word"] : List Str).length → bindArgs (PySem.W.fnOf "is_name" "is_name" (defArgs s_is_name) (defBody s_is_name) (defScope s_is_name) .none kV doc pm an cdv ct) ⟨us, []⟩ = pure ((["word"] : List Str).zip us) :=
  fun _ _ _ _ _ _ us hl => match us, hl with | [_], _ => rfl
theorem hb_is_number : ∀ (kV doc pm : Value) (an : Option Addr) (cdv ct : Value) (us : List Value), us.length = (["word"] : List Str).length → bindArgs (PySem.W.fnOf "is_number" "is_number" (defArgs s_is_number) (defBody s_is_number) (defScope s_is_number) .none kV doc pm an cdv ct) ⟨us, []⟩ = pure ((["word"] : List Str).zip us) :=
  fun _ _ _ _ _ _ us hl => match us, hl with | [_], _ => rfl
theorem hb_Line___init__ : ∀ (kV doc pm : Value) (an : Option Addr) (cdv ct : Value) (us : List Value), us.length = (["self", "number", "row"] : List Str).length → bindArgs (PySem.W.fnOf "__init__" "Line.__init__" (defArgs s_Line___init__) (defBody s_Line___init__) (defScope s_Line___init__) .none kV doc pm an cdv ct) ⟨us, []⟩ = pure ((["self", "number", "row"] : List Str).zip us) :=
  fun _ _ _ _ _ _ us hl => match us, hl with | [_, _, _], _ => rfl
theorem hb_Line_has_more : ∀ (kV doc pm : Value) (an : Option Addr) (cdv ct : Value) (us : List Value), us.length = (["self"] : List Str).length → bindArgs (PySem.W.fnOf "has_more" "Line.has_more" (defArgs s_Line_has_more) (defBody s_Line_has_more) (defScope s_Line_has_more) .none kV doc pm an cdv ct) ⟨us, []⟩ = pure ((["self"] : List Str).zip us) :=
  fun _ _ _ _ _ _ us hl => match us, hl with | [_], _ => rfl
theorem hb_Line_due : ∀ (kV doc pm : Value) (an : Option Addr) (cdv ct : Value) (us : List Value), us.length = (["self"] : List Str).length → bindArgs (PySem.W.fnOf "due" "Line.due" (defArgs s_Line_due) (defBody s_Line_due) (defScope s_Line_due) .none kV doc pm an cdv ct) ⟨us, []⟩ = pure ((["self"] : List Str).zip us) :=
  fun _ _ _ _ _ _ us hl => match us, hl with | [_], _ => rfl
theorem hb_Line_step : ∀ (kV doc pm : Value) (an : Option Addr) (cdv ct : Value) (us : List Value), us.length = (["self"] : List Str).length → bindArgs (PySem.W.fnOf "step" "Line.step" (defArgs s_Line_step) (defBody s_Line_step) (defScope s_Line_step) .none kV doc pm an cdv ct) ⟨us, []⟩ = pure ((["self"] : List Str).zip us) :=
  fun _ _ _ _ _ _ us hl => match us, hl with | [_], _ => rfl
theorem hb_Line_read_choice : ∀ (kV doc pm : Value) (an : Option Addr) (cdv ct : Value) (us : List Value), us.length = (["self", "choices"] : List Str).length → bindArgs (PySem.W.fnOf "read_choice" "Line.read_choice" (defArgs s_Line_read_choice) (defBody s_Line_read_choice) (defScope s_Line_read_choice) .none kV doc pm an cdv ct) ⟨us, []⟩ = pure ((["self", "choices"] : List Str).zip us) :=
  fun _ _ _ _ _ _ us hl => match us, hl with | [_, _], _ => rfl
theorem hb_Line_read_number : ∀ (kV doc pm : Value) (an : Option Addr) (cdv ct : Value) (us : List Value), us.length = (["self", "least", "most"] : List Str).length → bindArgs (PySem.W.fnOf "read_number" "Line.read_number" (defArgs s_Line_read_number) (defBody s_Line_read_number) (defScope s_Line_read_number) .none kV doc pm an cdv ct) ⟨us, []⟩ = pure ((["self", "least", "most"] : List Str).zip us) :=
  fun _ _ _ _ _ _ us hl => match us, hl with | [_, _, _], _ => rfl
theorem hb_Line_read_field : ∀ (kV doc pm : Value) (an : Option Addr) (cdv ct : Value) (us : List Value), us.length = (["self", "word", "least", "most"] : List Str).length → bindArgs (PySem.W.fnOf "read_field" "Line.read_field" (defArgs s_Line_read_field) (defBody s_Line_read_field) (defScope s_Line_read_field) .none kV doc pm an cdv ct) ⟨us, []⟩ = pure ((["self", "word", "least", "most"] : List Str).zip us) :=
  fun _ _ _ _ _ _ us hl => match us, hl with | [_, _, _, _], _ => rfl
theorem hb_Line_due_name : ∀ (kV doc pm : Value) (an : Option Addr) (cdv ct : Value) (us : List Value), us.length = (["self"] : List Str).length → bindArgs (PySem.W.fnOf "due_name" "Line.due_name" (defArgs s_Line_due_name) (defBody s_Line_due_name) (defScope s_Line_due_name) .none kV doc pm an cdv ct) ⟨us, []⟩ = pure ((["self"] : List Str).zip us) :=
  fun _ _ _ _ _ _ us hl => match us, hl with | [_], _ => rfl
theorem hb_Line_read_new_name : ∀ (kV doc pm : Value) (an : Option Addr) (cdv ct : Value) (us : List Value), us.length = (["self", "used"] : List Str).length → bindArgs (PySem.W.fnOf "read_new_name" "Line.read_new_name" (defArgs s_Line_read_new_name) (defBody s_Line_read_new_name) (defScope s_Line_read_new_name) .none kV doc pm an cdv ct) ⟨us, []⟩ = pure ((["self", "used"] : List Str).zip us) :=
  fun _ _ _ _ _ _ us hl => match us, hl with | [_, _], _ => rfl
theorem hb_Line_read_known_name : ∀ (T : Addr) (kV doc pm : Value) (an : Option Addr) (cdv ct : Value) (us its : List Value), us.length = 2 → its.length = 1 →
    ∃ k, bindArgs (PySem.W.fnOf "read_known_name" "Line.read_known_name" (defArgs s_Line_read_known_name) (defBody s_Line_read_known_name) (defScope s_Line_read_known_name) (.ref T) kV doc pm an cdv ct) ⟨us, []⟩ = seqItems? (.ref T) >>= k ∧ k (some its.toArray) = pure ((["self", "names", "least"] : List Str).zip (us ++ its.drop 0)) :=
  fun _ _ _ _ _ _ _ us its h1 h2 => match us, its, h1, h2 with | [_, _], [_], _, _ => ⟨_, rfl, rfl⟩
theorem hb_Line_finish : ∀ (kV doc pm : Value) (an : Option Addr) (cdv ct : Value) (us : List Value), us.length = (["self"] : List Str).length → bindArgs (PySem.W.fnOf "finish" "Line.finish" (defArgs s_Line_finish) (defBody s_Line_finish) (defScope s_Line_finish) .none kV doc pm an cdv ct) ⟨us, []⟩ = pure ((["self"] : List Str).zip us) :=
  fun _ _ _ _ _ _ us hl => match us, hl with | [_], _ => rfl
theorem hb_Satellite___init__ : ∀ (kV doc pm : Value) (an : Option Addr) (cdv ct : Value) (us : List Value), us.length = (["self", "name", "store", "battery", "start_level", "reserve", "charge", "settle", "light"] : List Str).length → bindArgs (PySem.W.fnOf "__init__" "Satellite.__init__" (defArgs s_Satellite___init__) (defBody s_Satellite___init__) (defScope s_Satellite___init__) .none kV doc pm an cdv ct) ⟨us, []⟩ = pure ((["self", "name", "store", "battery", "start_level", "reserve", "charge", "settle", "light"] : List Str).zip us) :=
  fun _ _ _ _ _ _ us hl => match us, hl with | [_, _, _, _, _, _, _, _, _], _ => rfl
theorem hb_Station___init__ : ∀ (kV doc pm : Value) (an : Option Addr) (cdv ct : Value) (us : List Value), us.length = (["self", "name", "antennas", "turn"] : List Str).length → bindArgs (PySem.W.fnOf "__init__" "Station.__init__" (defArgs s_Station___init__) (defBody s_Station___init__) (defScope s_Station___init__) .none kV doc pm an cdv ct) ⟨us, []⟩ = pure ((["self", "name", "antennas", "turn"] : List Str).zip us) :=
  fun _ _ _ _ _ _ us hl => match us, hl with | [_, _, _, _], _ => rfl
theorem hb_Recording___init__ : ∀ (kV doc pm : Value) (an : Option Addr) (cdv ct : Value) (us : List Value), us.length = (["self", "name", "satellite", "earliest", "latest", "length", "size", "energy", "worth", "rank", "deadline"] : List Str).length → bindArgs (PySem.W.fnOf "__init__" "Recording.__init__" (defArgs s_Recording___init__) (defBody s_Recording___init__) (defScope s_Recording___init__) .none kV doc pm an cdv ct) ⟨us, []⟩ = pure ((["self", "name", "satellite", "earliest", "latest", "length", "size", "energy", "worth", "rank", "deadline"] : List Str).zip us) :=
  fun _ _ _ _ _ _ us hl => match us, hl with | [_, _, _, _, _, _, _, _, _, _, _], _ => rfl
theorem hb_Pass___init__ : ∀ (kV doc pm : Value) (an : Option Addr) (cdv ct : Value) (us : List Value), us.length = (["self", "name", "satellite", "station", "span", "room", "energy", "fee"] : List Str).length → bindArgs (PySem.W.fnOf "__init__" "Pass.__init__" (defArgs s_Pass___init__) (defBody s_Pass___init__) (defScope s_Pass___init__) .none kV doc pm an cdv ct) ⟨us, []⟩ = pure ((["self", "name", "satellite", "station", "span", "room", "energy", "fee"] : List Str).zip us) :=
  fun _ _ _ _ _ _ us hl => match us, hl with | [_, _, _, _, _, _, _, _], _ => rfl
theorem hb_World___init__ : ∀ (kV doc pm : Value) (an : Option Addr) (cdv ct : Value) (us : List Value), us.length = (["self", "text", "horizon", "things"] : List Str).length → bindArgs (PySem.W.fnOf "__init__" "World.__init__" (defArgs s_World___init__) (defBody s_World___init__) (defScope s_World___init__) .none kV doc pm an cdv ct) ⟨us, []⟩ = pure ((["self", "text", "horizon", "things"] : List Str).zip us) :=
  fun _ _ _ _ _ _ us hl => match us, hl with | [_, _, _, _], _ => rfl
theorem hb_World_parse : ∀ (kV doc pm : Value) (an : Option Addr) (cdv ct : Value) (us : List Value), us.length = (["text"] : List Str).length → bindArgs (PySem.W.fnOf "parse" "World.parse" (defArgs s_World_parse) (defBody s_World_parse) (defScope s_World_parse) .none kV doc pm an cdv ct) ⟨us, []⟩ = pure ((["text"] : List Str).zip us) :=
  fun _ _ _ _ _ _ us hl => match us, hl with | [_], _ => rfl
section
variable {P : Program} {w : World} {K : PySem.W.Frag} {mg : Str → Option Value} {base : Heap} {CL CS CT CR CP CW aS aR fS fT fR fP : Addr}
theorem prog_parse (T : TxtW K mg CL CS CT CR CP CW aS aR fS fT fR fP) (F : PF K mg CL CS CT CR CP CW) : SDef P w K mg base CX0 7 CW "parse" ["text"] (spParse K CS CT CR CP CW) := by
  have L := T.L
  have B := L.B
  have D_init : MDef P w K mg base CX0 1 CL "__init__" _ [] _ := d_Line_init L F.p_Line___init__
  have D_has_more : MDef P w K mg base CX0 1 CL "has_more" _ [] _ := d_has_more L F.p_Line_has_more
  have D_due : MDef P w K mg base CX0 2 CL "due" _ [] _ := d_due L D_has_more F.p_Line_due
  have D_step : MDef P w K mg base CX0 1 CL "step" _ [] _ := d_step L F.p_Line_step
  have D_choice : MDef P w K mg base CX0 3 CL "read_choice" _ [] _ := d_read_choice L D_due D_step F.p_Line_read_choice
  have D_isnum : DefOk P w K mg base CX0 1 "is_number" _ _ := d_is_number L F.p_is_number
  have D_number : MDef P w K mg base CX0 3 CL "read_number" _ [] _ := d_read_number L D_isnum D_due D_step F.p_Line_read_number
  have D_field : MDef P w K mg base CX0 4 CL "read_field" _ [] _ := d_read_field L D_choice D_number F.p_Line_read_field
  have D_isname : DefOk P w K mg base CX0 1 "is_name" _ _ := d_is_name L F.p_is_name
  have D_due_name : MDef P w K mg base CX0 3 CL "due_name" _ [] _ := d_due_name L D_isname D_due F.p_Line_due_name
  have D_new : MDef P w K mg base CX0 4 CL "read_new_name" _ [] _ := d_read_new_name L D_due_name D_step F.p_Line_read_new_name
  have D_known : MDef P w K mg base CX0 4 CL "read_known_name" _ _ _ := d_read_known_name L D_due_name D_step F.p_Line_read_known_name
  have D_finish : MDef P w K mg base CX0 3 CL "finish" _ [] _ := d_finish L D_has_more F.p_Line_finish
  have D_lines : DefOk P w K mg base CX0 3 "lines_of" _ _ := d_lines_of L D_init F.p_lines_of
  have D_names : DefOk P w K mg base CX0 1 "names_of" _ _ := d_names_of B F.p_names_of
  have D_light : DefOk P w K mg base CX0 4 "read_light" _ _ := d_read_light T D_has_more D_number F.p_read_light
  have D1 : DefOk P w K mg base CX0 5 "read_satellite" _ _ := d_read_satellite T D_names D_new D_field D_choice D_light (dI_Satellite T F.p_Satellite___init__) F.p_read_satellite
  have D2 : DefOk P w K mg base CX0 5 "read_station" _ _ := d_read_station T D_names D_new D_field (dI_Station T F.p_Station___init__) F.p_read_station
  have D3 : DefOk P w K mg base CX0 5 "read_recording" _ _ := d_read_recording T D_names D_new D_field D_choice D_known (dI_Recording T F.p_Recording___init__) F.p_read_recording
  have D4 : DefOk P w K mg base CX0 5 "read_pass" _ _ := d_read_pass T D_names D_new D_field D_choice D_known (dI_Pass T F.p_Pass___init__) F.p_read_pass
  have D_most : DefOk P w K mg base CX0 1 "most_things" _ _ := d_most_things T F.p_most_things
  have D_sort : DefOk P w K mg base CX0 3 "read_sort" _ _ := d_read_sort T D_due D_step D_most F.p_read_sort
  have D_things : DefOk P w K mg base CX0 6 "read_things" _ _ := d_read_things T D_sort D1 D2 D3 D4
    (at_ne F.p_read_station F.p_read_satellite T.r_station T.r_satellite (by decide)) (at_ne F.p_read_recording F.p_read_satellite T.r_recording T.r_satellite (by decide)) (at_ne F.p_read_recording F.p_read_station T.r_recording T.r_station (by decide))
    (at_ne F.p_read_pass F.p_read_satellite T.r_pass T.r_satellite (by decide)) (at_ne F.p_read_pass F.p_read_station T.r_pass T.r_station (by decide)) (at_ne F.p_read_pass F.p_read_recording T.r_pass T.r_recording (by decide)) D_finish F.p_read_things
  exact d_parse T D_lines D_field D_finish D_things (dI_World T F.p_World___init__) F.p_World_parse
end
end DP
namespace DP
open PySem PySem.Spec PyProof.Rows L2
section
variable {P : Program} {w : World} {K : PySem.W.Frag} {mg : Str → Option Value} {base : Heap} {CL CS CT CR CP CW aS aR fS fT fR fP : Addr}
structure CellF (K : PySem.W.Frag) (mg : Str → Option Value) : Prop where
  (a1 : At K mg "_law_cell" s__law_cell ["script", "k"]) (a2 : At K mg "_law_draws" s__law_draws ["cell", "count"]) (a3 : At K mg "_law_satellite" s__law_satellite ["cell", "k"]) (a4 : At K mg "_law_recording" s__law_recording ["cell", "k", "satellites"]) (a5 : At K mg "_law_pass" s__law_pass ["cell", "k", "satellites", "stations"]) (a6 : At K mg "_law_text" s__law_text ["script", "recordings", "passes"]) (a7 : At K mg "_law_world" s__law_world ["script"]) (a8 : At K mg "_law_options" s__law_options ["world", "r"]) (a9 : At K mg "_law_drawn" s__law_drawn ["world", "cell"])
theorem CellF.cell (B : Bt mg) (L : CellF K mg) : DefOk P w K mg base CX0 1 "_law_cell" ["script", "k"] (spCell K) := d_cell B L.a1
theorem CellF.draws (B : Bt mg) (L : CellF K mg) : DefOk P w K mg base CX0 1 "_law_draws" ["cell", "count"] spDrawsC := d_draws B L.a2
theorem CellF.world (T : TxtW K mg CL CS CT CR CP CW aS aR fS fT fR fP) (F : PF K mg CL CS CT CR CP CW) (L : CellF K mg) : DefOk P w K mg base CX0 8 "_law_world" ["script"] (spWorldC K CS CT CR CP CW) :=
  d_worldC T (L.cell T.L.B) (d_textC T.L.B (L.cell T.L.B) (L.draws T.L.B) (d_satC T.L.B (L.draws T.L.B) L.a3) (d_recC T.L.B (L.draws T.L.B) L.a4) (d_pasC T.L.B (L.draws T.L.B) L.a5) L.a6) (prog_parse T F) L.a7
theorem CellF.drawn (T : TxtW K mg CL CS CT CR CP CW aS aR fS fT fR fP) (L : CellF K mg) : DefOk P w K mg base CX0 2 "_law_drawn" ["world", "cell"] (spDrawn K CS CT CR CP CW) := d_drawn T (L.draws T.L.B) (d_optC T L.a8) L.a9
end
end DP
namespace DP
open PySem PySem.Spec PyProof.Rows L2
theorem the_law {P : Program} {w : World} {K : PySem.W.Frag} {mg : Str → Option Value} {base : Heap} {CL CS CT CR CP CW aS aR fS fT fR fP aM CM CZ : Addr} (T : TxtW K mg CL CS CT CR CP CW aS aR fS fT fR fP) (F : PF K mg CL CS CT CR CP CW)
    (a1 : At K mg "_law_cell" s__law_cell ["script", "k"]) (a2 : At K mg "_law_draws" s__law_draws ["cell", "count"]) (a3 : At K mg "_law_satellite" s__law_satellite ["cell", "k"]) (a4 : At K mg "_law_recording" s__law_recording ["cell", "k", "satellites"]) (a5 : At K mg "_law_pass" s__law_pass ["cell", "k", "satellites", "stations"]) (a6 : At K mg "_law_text" s__law_text ["script", "recordings", "passes"]) (a7 : At K mg "_law_world" s__law_world ["script"]) (a8 : At K mg "_law_options" s__law_options ["world", "r"]) (a9 : At K mg "_law_drawn" s__law_drawn ["world", "cell"]) (r1 : At K mg "has_minute" s_has_minute ["span", "minute"]) (r2 : At K mg "lengthened" s_lengthened ["span", "minutes"]) (r3 : At K mg "busy_part" s_busy_part ["world", "number", "span", "minute"]) (r4 : At K mg "is_spent" s_is_spent ["first", "minutes"]) (r5 : At K mg "minutes_within" s_minutes_within ["spans", "first", "end"]) (r6 : At K mg "light_minutes" s_light_minutes ["satellite", "first", "end"]) (r7 : At K mg "charged" s_charged ["satellite", "first", "end"]) (r8 : At K mg "right_side" s_right_side ["world", "row"]) (r9 : At K mg "recording_part" s_recording_part ["world", "row", "r", "option"]) (r10 : At K mg "pass_part" s_pass_part ["world", "row", "p"]) (c1 : At K mg "is_integer" s_is_integer ["thing"]) (c2 : At K mg "has_row_form" s_has_row_form ["row"]) (c3 : At K mg "things_of" s_things_of ["world", "word"]) (c4 : At K mg "check_row" s_check_row ["world", "row"]) (o1 : At K mg "is_option" s_is_option ["world", "number", "pair"]) (o2 : At K mg "options" s_options ["world", "number"]) (o3 : At K mg "base_of" s_base_of ["world"]) (o4 : At K mg "recording_weight" s_recording_weight ["world", "r"]) (m1 : At K mg "recording_choices" s_recording_choices ["world", "r"]) (m2 : At K mg "pass_choices" s_pass_choices ["world", "p"]) (m3 : At K mg "entries_of" s_entries_of ["case"]) (m4 : MAtD K CM "__init__" "Measure.__init__" s_Measure___init__ ["self", "world", "factor"] [.int 1]) (m5 : MAt K CM "entry_worth" "Measure.entry_worth" s_Measure_entry_worth ["self", "thing", "entry"]) (m6 : MAt K CM "part" "Measure.part" s_Measure_part ["self", "row", "thing", "entry"]) (n1 : At K mg "is_tuple_of" s_is_tuple_of ["thing", "many"]) (n2 : At K mg "check_prices" s_check_prices ["world", "divisor", "prices"]) (n3 : At K mg "bound" s_bound ["world", "case", "divisor", "prices"]) (n4 : MAt K CZ "__init__" "Nets.__init__" s_Nets___init__ ["self", "measure", "divisor", "prices"]) (n5 : MAt K CZ "bound" "Nets.bound" s_Nets_bound ["self", "case"]) (n6 : MAt K CZ "net" "Nets.net" s_Nets_net ["self", "thing", "entry"]) (n7 : MAt K CZ "choice_net" "Nets.choice_net" s_Nets_choice_net ["self", "thing", "entry"])
    (e1 : At K mg "_law_row" s__law_row ["world", "cell"]) (e2 : At K mg "_law_recording_part" s__law_recording_part ["world", "row", "r", "option"]) (e3 : At K mg "_law_pass_part" s__law_pass_part ["world", "row", "p"]) (e4 : At K mg "_law_right" s__law_right ["world", "row"]) (e5 : At K mg "_law_case" s__law_case ["plan", "cell"]) (e6 : At K mg "_law_prices" s__law_prices ["world", "script", "start", "count"]) (e7 : At K mg "_law_recording_weight" s__law_recording_weight ["world", "r"]) (e8 : At K mg "_law_gain" s__law_gain ["world", "divisor", "prices", "r", "option"]) (e9 : At K mg "_law_bound" s__law_bound ["world", "case", "divisor", "prices"]) (z1 : At K mg "law" s_law ["script"])
    (TR : TxtR K w mg aM) (TM : TxtM K mg CM) (TN : TxtN K mg CM CZ) : DefOk P w K mg base CX0 9 "law" ["script"] (spLaw K) := by
  have B := T.L.B
  have L : CellF K mg := ⟨a1, a2, a3, a4, a5, a6, a7, a8, a9⟩
  have D_has : DefOk P w K mg base CX0 1 "has_minute" _ _ := d_has_minute B r1
  have D_len : DefOk P w K mg base CX0 1 "lengthened" _ _ := d_lengthened B r2
  have D_busy : DefOk P w K mg base CX0 2 "busy_part" _ _ := d_busy_part T D_has D_len r3
  have D_spent : DefOk P w K mg base CX0 1 "is_spent" _ _ := d_is_spent B r4
  have D_light : DefOk P w K mg base CX0 2 "light_minutes" _ _ := d_light_minutes T (d_minutes_within B r5) r6
  have D_right : DefOk P w K mg base CX0 4 "right_side" _ _ := d_right_side T (d_charged T D_light r7) r8
  have D_rec : DefOk P w K mg base CX0 3 "recording_part" _ _ := d_recording_part T D_busy D_has D_spent r9
  have D_pas : DefOk P w K mg base CX0 3 "pass_part" _ _ := d_pass_part T D_busy D_has D_len D_spent r10
  have D_isint : DefOk P w K mg base CX0 1 "is_integer" _ _ := d_isint B c1
  have D_check : DefOk P w K mg base CX0 3 "check_row" _ _ := d_check_row T TR (d_form B TR D_isint c2) (d_things_of T c3) c4
  have D_options : DefOk P w K mg base CX0 2 "options" _ _ := d_options T (d_is_option T o1) o2
  have D_weight : DefOk P w K mg base CX0 2 "recording_weight" _ _ := d_recording_weight T (d_base_of T o3) o4
  have DI_M : MDef P w K mg base CX0 4 CM "__init__" _ _ _ := dI_Measure T TM (d_rec_cho B D_options m1) (d_pas_cho T m2) D_weight m4
  have D_Mw : MDef P w K mg base CX0 1 CM "entry_worth" _ _ (spEW K CS CT CR CP CW CM) := d_entry_worth B TM m5
  have D_Mp : MDef P w K mg base CX0 4 CM "part" _ _ _ := d_part T TM D_rec D_pas m6
  have D_chk : DefOk P w K mg base CX0 4 "check_prices" _ _ := d_check_prices T D_isint (d_is_tuple_of B n1) D_check n2
  have D_cn : MDef P w K mg base CX0 5 CZ "choice_net" _ _ _ := d_choice_net TN D_Mp D_Mw B n7
  have D_net : MDef P w K mg base CX0 6 CZ "net" _ _ _ := d_net TN D_cn B n6
  have D_Nb : MDef P w K mg base CX0 7 CZ "bound" _ _ _ := d_Nets_bound TN (d_entries_of B m3) D_net B n5
  have D_bnd : DefOk P w K mg base CX0 8 "bound" _ _ := d_bound TN D_chk DI_M (dI_Nets TN B D_right n4) D_Nb B n3
  have D_lopt : DefOk P w K mg base CX0 1 "_law_options" _ _ := d_optC T a8
  have D_lgain : DefOk P w K mg base CX0 2 "_law_gain" _ _ := d_law_gain B (d_lrec T e2) (d_law_recording_weight T e7) e8
  have D_lbnd : DefOk P w K mg base CX0 3 "_law_bound" _ _ := d_law_bound T (d_lright T e4) D_lgain D_lopt (d_lpas T e3) e9
  exact d_law T (L.cell B) (L.world T F) (L.drawn T) (d_caseC B (L.draws B) e5) (d_law_prices B (L.cell B) (L.draws B) (d_law_row T (L.draws B) e1) e6) D_bnd D_lbnd z1
theorem hb__law_cell : ∀ (kV doc pm : Value) (an : Option Addr) (cdv ct : Value) (us : List Value), us.length = (["script", "k"] : List Str).length → bindArgs (PySem.W.fnOf "_law_cell" "_law_cell" (defArgs s__law_cell) (defBody s__law_cell) (defScope s__law_cell) .none kV doc pm an cdv ct) ⟨us, []⟩ = pure ((["script", "k"] : List Str).zip us) :=
  fun _ _ _ _ _ _ us hl => match us, hl with | [_, _], _ => rfl
theorem hb__law_draws : ∀ (kV doc pm : Value) (an : Option Addr) (cdv ct : Value) (us : List Value), us.length = (["cell", "count"] : List Str).length → bindArgs (PySem.W.fnOf "_law_draws" "_law_draws" (defArgs s__law_draws) (defBody s__law_draws) (defScope s__law_draws) .none kV doc pm an cdv ct) ⟨us, []⟩ = pure ((["cell", "count"] : List Str).zip us) :=
  fun _ _ _ _ _ _ us hl => match us, hl with | [_, _], _ => rfl
theorem hb__law_satellite : ∀ (kV doc pm : Value) (an : Option Addr) (cdv ct : Value) (us : List Value), us.length = (["cell", "k"] : List Str).length → bindArgs (PySem.W.fnOf "_law_satellite" "_law_satellite" (defArgs s__law_satellite) (defBody s__law_satellite) (defScope s__law_satellite) .none kV doc pm an cdv ct) ⟨us, []⟩ = pure ((["cell", "k"] : List Str).zip us) :=
  fun _ _ _ _ _ _ us hl => match us, hl with | [_, _], _ => rfl
theorem hb__law_recording : ∀ (kV doc pm : Value) (an : Option Addr) (cdv ct : Value) (us : List Value), us.length = (["cell", "k", "satellites"] : List Str).length → bindArgs (PySem.W.fnOf "_law_recording" "_law_recording" (defArgs s__law_recording) (defBody s__law_recording) (defScope s__law_recording) .none kV doc pm an cdv ct) ⟨us, []⟩ = pure ((["cell", "k", "satellites"] : List Str).zip us) :=
  fun _ _ _ _ _ _ us hl => match us, hl with | [_, _, _], _ => rfl
theorem hb__law_pass : ∀ (kV doc pm : Value) (an : Option Addr) (cdv ct : Value) (us : List Value), us.length = (["cell", "k", "satellites", "stations"] : List Str).length → bindArgs (PySem.W.fnOf "_law_pass" "_law_pass" (defArgs s__law_pass) (defBody s__law_pass) (defScope s__law_pass) .none kV doc pm an cdv ct) ⟨us, []⟩ = pure ((["cell", "k", "satellites", "stations"] : List Str).zip us) :=
  fun _ _ _ _ _ _ us hl => match us, hl with | [_, _, _, _], _ => rfl
theorem hb__law_text : ∀ (kV doc pm : Value) (an : Option Addr) (cdv ct : Value) (us : List Value), us.length = (["script", "recordings", "passes"] : List Str).length → bindArgs (PySem.W.fnOf "_law_text" "_law_text" (defArgs s__law_text) (defBody s__law_text) (defScope s__law_text) .none kV doc pm an cdv ct) ⟨us, []⟩ = pure ((["script", "recordings", "passes"] : List Str).zip us) :=
  fun _ _ _ _ _ _ us hl => match us, hl with | [_, _, _], _ => rfl
theorem hb__law_world : ∀ (kV doc pm : Value) (an : Option Addr) (cdv ct : Value) (us : List Value), us.length = (["script"] : List Str).length → bindArgs (PySem.W.fnOf "_law_world" "_law_world" (defArgs s__law_world) (defBody s__law_world) (defScope s__law_world) .none kV doc pm an cdv ct) ⟨us, []⟩ = pure ((["script"] : List Str).zip us) :=
  fun _ _ _ _ _ _ us hl => match us, hl with | [_], _ => rfl
theorem hb__law_options : ∀ (kV doc pm : Value) (an : Option Addr) (cdv ct : Value) (us : List Value), us.length = (["world", "r"] : List Str).length → bindArgs (PySem.W.fnOf "_law_options" "_law_options" (defArgs s__law_options) (defBody s__law_options) (defScope s__law_options) .none kV doc pm an cdv ct) ⟨us, []⟩ = pure ((["world", "r"] : List Str).zip us) :=
  fun _ _ _ _ _ _ us hl => match us, hl with | [_, _], _ => rfl
theorem hb__law_drawn : ∀ (kV doc pm : Value) (an : Option Addr) (cdv ct : Value) (us : List Value), us.length = (["world", "cell"] : List Str).length → bindArgs (PySem.W.fnOf "_law_drawn" "_law_drawn" (defArgs s__law_drawn) (defBody s__law_drawn) (defScope s__law_drawn) .none kV doc pm an cdv ct) ⟨us, []⟩ = pure ((["world", "cell"] : List Str).zip us) :=
  fun _ _ _ _ _ _ us hl => match us, hl with | [_, _], _ => rfl
theorem hb_has_minute : ∀ (kV doc pm : Value) (an : Option Addr) (cdv ct : Value) (us : List Value), us.length = (["span", "minute"] : List Str).length → bindArgs (PySem.W.fnOf "has_minute" "has_minute" (defArgs s_has_minute) (defBody s_has_minute) (defScope s_has_minute) .none kV doc pm an cdv ct) ⟨us, []⟩ = pure ((["span", "minute"] : List Str).zip us) :=
  fun _ _ _ _ _ _ us hl => match us, hl with | [_, _], _ => rfl
theorem hb_lengthened : ∀ (kV doc pm : Value) (an : Option Addr) (cdv ct : Value) (us : List Value), us.length = (["span", "minutes"] : List Str).length → bindArgs (PySem.W.fnOf "lengthened" "lengthened" (defArgs s_lengthened) (defBody s_lengthened) (defScope s_lengthened) .none kV doc pm an cdv ct) ⟨us, []⟩ = pure ((["span", "minutes"] : List Str).zip us) :=
  fun _ _ _ _ _ _ us hl => match us, hl with | [_, _], _ => rfl
theorem hb_busy_part : ∀ (kV doc pm : Value) (an : Option Addr) (cdv ct : Value) (us : List Value), us.length = (["world", "number", "span", "minute"] : List Str).length → bindArgs (PySem.W.fnOf "busy_part" "busy_part" (defArgs s_busy_part) (defBody s_busy_part) (defScope s_busy_part) .none kV doc pm an cdv ct) ⟨us, []⟩ = pure ((["world", "number", "span", "minute"] : List Str).zip us) :=
  fun _ _ _ _ _ _ us hl => match us, hl with | [_, _, _, _], _ => rfl
theorem hb_is_spent : ∀ (kV doc pm : Value) (an : Option Addr) (cdv ct : Value) (us : List Value), us.length = (["first", "minutes"] : List Str).length → bindArgs (PySem.W.fnOf "is_spent" "is_spent" (defArgs s_is_spent) (defBody s_is_spent) (defScope s_is_spent) .none kV doc pm an cdv ct) ⟨us, []⟩ = pure ((["first", "minutes"] : List Str).zip us) :=
  fun _ _ _ _ _ _ us hl => match us, hl with | [_, _], _ => rfl
theorem hb_minutes_within : ∀ (kV doc pm : Value) (an : Option Addr) (cdv ct : Value) (us : List Value), us.length = (["spans", "first", "end"] : List Str).length → bindArgs (PySem.W.fnOf "minutes_within" "minutes_within" (defArgs s_minutes_within) (defBody s_minutes_within) (defScope s_minutes_within) .none kV doc pm an cdv ct) ⟨us, []⟩ = pure ((["spans", "first", "end"] : List Str).zip us) :=
  fun _ _ _ _ _ _ us hl => match us, hl with | [_, _, _], _ => rfl
theorem hb_light_minutes : ∀ (kV doc pm : Value) (an : Option Addr) (cdv ct : Value) (us : List Value), us.length = (["satellite", "first", "end"] : List Str).length → bindArgs (PySem.W.fnOf "light_minutes" "light_minutes" (defArgs s_light_minutes) (defBody s_light_minutes) (defScope s_light_minutes) .none kV doc pm an cdv ct) ⟨us, []⟩ = pure ((["satellite", "first", "end"] : List Str).zip us) :=
  fun _ _ _ _ _ _ us hl => match us, hl with | [_, _, _], _ => rfl
theorem hb_charged : ∀ (kV doc pm : Value) (an : Option Addr) (cdv ct : Value) (us : List Value), us.length = (["satellite", "first", "end"] : List Str).length → bindArgs (PySem.W.fnOf "charged" "charged" (defArgs s_charged) (defBody s_charged) (defScope s_charged) .none kV doc pm an cdv ct) ⟨us, []⟩ = pure ((["satellite", "first", "end"] : List Str).zip us) :=
  fun _ _ _ _ _ _ us hl => match us, hl with | [_, _, _], _ => rfl
theorem hb_right_side : ∀ (kV doc pm : Value) (an : Option Addr) (cdv ct : Value) (us : List Value), us.length = (["world", "row"] : List Str).length → bindArgs (PySem.W.fnOf "right_side" "right_side" (defArgs s_right_side) (defBody s_right_side) (defScope s_right_side) .none kV doc pm an cdv ct) ⟨us, []⟩ = pure ((["world", "row"] : List Str).zip us) :=
  fun _ _ _ _ _ _ us hl => match us, hl with | [_, _], _ => rfl
theorem hb_recording_part : ∀ (kV doc pm : Value) (an : Option Addr) (cdv ct : Value) (us : List Value), us.length = (["world", "row", "r", "option"] : List Str).length → bindArgs (PySem.W.fnOf "recording_part" "recording_part" (defArgs s_recording_part) (defBody s_recording_part) (defScope s_recording_part) .none kV doc pm an cdv ct) ⟨us, []⟩ = pure ((["world", "row", "r", "option"] : List Str).zip us) :=
  fun _ _ _ _ _ _ us hl => match us, hl with | [_, _, _, _], _ => rfl
theorem hb_pass_part : ∀ (kV doc pm : Value) (an : Option Addr) (cdv ct : Value) (us : List Value), us.length = (["world", "row", "p"] : List Str).length → bindArgs (PySem.W.fnOf "pass_part" "pass_part" (defArgs s_pass_part) (defBody s_pass_part) (defScope s_pass_part) .none kV doc pm an cdv ct) ⟨us, []⟩ = pure ((["world", "row", "p"] : List Str).zip us) :=
  fun _ _ _ _ _ _ us hl => match us, hl with | [_, _, _], _ => rfl
theorem hb_is_integer : ∀ (kV doc pm : Value) (an : Option Addr) (cdv ct : Value) (us : List Value), us.length = (["thing"] : List Str).length → bindArgs (PySem.W.fnOf "is_integer" "is_integer" (defArgs s_is_integer) (defBody s_is_integer) (defScope s_is_integer) .none kV doc pm an cdv ct) ⟨us, []⟩ = pure ((["thing"] : List Str).zip us) :=
  fun _ _ _ _ _ _ us hl => match us, hl with | [_], _ => rfl
theorem hb_has_row_form : ∀ (kV doc pm : Value) (an : Option Addr) (cdv ct : Value) (us : List Value), us.length = (["row"] : List Str).length → bindArgs (PySem.W.fnOf "has_row_form" "has_row_form" (defArgs s_has_row_form) (defBody s_has_row_form) (defScope s_has_row_form) .none kV doc pm an cdv ct) ⟨us, []⟩ = pure ((["row"] : List Str).zip us) :=
  fun _ _ _ _ _ _ us hl => match us, hl with | [_], _ => rfl
theorem hb_things_of : ∀ (kV doc pm : Value) (an : Option Addr) (cdv ct : Value) (us : List Value), us.length = (["world", "word"] : List Str).length → bindArgs (PySem.W.fnOf "things_of" "things_of" (defArgs s_things_of) (defBody s_things_of) (defScope s_things_of) .none kV doc pm an cdv ct) ⟨us, []⟩ = pure ((["world", "word"] : List Str).zip us) :=
  fun _ _ _ _ _ _ us hl => match us, hl with | [_, _], _ => rfl
theorem hb_check_row : ∀ (kV doc pm : Value) (an : Option Addr) (cdv ct : Value) (us : List Value), us.length = (["world", "row"] : List Str).length → bindArgs (PySem.W.fnOf "check_row" "check_row" (defArgs s_check_row) (defBody s_check_row) (defScope s_check_row) .none kV doc pm an cdv ct) ⟨us, []⟩ = pure ((["world", "row"] : List Str).zip us) :=
  fun _ _ _ _ _ _ us hl => match us, hl with | [_, _], _ => rfl
theorem hb_is_option : ∀ (kV doc pm : Value) (an : Option Addr) (cdv ct : Value) (us : List Value), us.length = (["world", "number", "pair"] : List Str).length → bindArgs (PySem.W.fnOf "is_option" "is_option" (defArgs s_is_option) (defBody s_is_option) (defScope s_is_option) .none kV doc pm an cdv ct) ⟨us, []⟩ = pure ((["world", "number", "pair"] : List Str).zip us) :=
  fun _ _ _ _ _ _ us hl => match us, hl with | [_, _, _], _ => rfl
theorem hb_options : ∀ (kV doc pm : Value) (an : Option Addr) (cdv ct : Value) (us : List Value), us.length = (["world", "number"] : List Str).length → bindArgs (PySem.W.fnOf "options" "options" (defArgs s_options) (defBody s_options) (defScope s_options) .none kV doc pm an cdv ct) ⟨us, []⟩ = pure ((["world", "number"] : List Str).zip us) :=
  fun _ _ _ _ _ _ us hl => match us, hl with | [_, _], _ => rfl
theorem hb_base_of : ∀ (kV doc pm : Value) (an : Option Addr) (cdv ct : Value) (us : List Value), us.length = (["world"] : List Str).length → bindArgs (PySem.W.fnOf "base_of" "base_of" (defArgs s_base_of) (defBody s_base_of) (defScope s_base_of) .none kV doc pm an cdv ct) ⟨us, []⟩ = pure ((["world"] : List Str).zip us) :=
  fun _ _ _ _ _ _ us hl => match us, hl with | [_], _ => rfl
theorem hb_recording_weight : ∀ (kV doc pm : Value) (an : Option Addr) (cdv ct : Value) (us : List Value), us.length = (["world", "r"] : List Str).length → bindArgs (PySem.W.fnOf "recording_weight" "recording_weight" (defArgs s_recording_weight) (defBody s_recording_weight) (defScope s_recording_weight) .none kV doc pm an cdv ct) ⟨us, []⟩ = pure ((["world", "r"] : List Str).zip us) :=
  fun _ _ _ _ _ _ us hl => match us, hl with | [_, _], _ => rfl
theorem hb_recording_choices : ∀ (kV doc pm : Value) (an : Option Addr) (cdv ct : Value) (us : List Value), us.length = (["world", "r"] : List Str).length → bindArgs (PySem.W.fnOf "recording_choices" "recording_choices" (defArgs s_recording_choices) (defBody s_recording_choices) (defScope s_recording_choices) .none kV doc pm an cdv ct) ⟨us, []⟩ = pure ((["world", "r"] : List Str).zip us) :=
  fun _ _ _ _ _ _ us hl => match us, hl with | [_, _], _ => rfl
theorem hb_pass_choices : ∀ (kV doc pm : Value) (an : Option Addr) (cdv ct : Value) (us : List Value), us.length = (["world", "p"] : List Str).length → bindArgs (PySem.W.fnOf "pass_choices" "pass_choices" (defArgs s_pass_choices) (defBody s_pass_choices) (defScope s_pass_choices) .none kV doc pm an cdv ct) ⟨us, []⟩ = pure ((["world", "p"] : List Str).zip us) :=
  fun _ _ _ _ _ _ us hl => match us, hl with | [_, _], _ => rfl
theorem hb_entries_of : ∀ (kV doc pm : Value) (an : Option Addr) (cdv ct : Value) (us : List Value), us.length = (["case"] : List Str).length → bindArgs (PySem.W.fnOf "entries_of" "entries_of" (defArgs s_entries_of) (defBody s_entries_of) (defScope s_entries_of) .none kV doc pm an cdv ct) ⟨us, []⟩ = pure ((["case"] : List Str).zip us) :=
  fun _ _ _ _ _ _ us hl => match us, hl with | [_], _ => rfl
theorem hb_Measure___init__ : ∀ (T : Addr) (kV doc pm : Value) (an : Option Addr) (cdv ct : Value) (us its : List Value), us.length = 2 → its.length = 1 →
    ∃ k, bindArgs (PySem.W.fnOf "__init__" "Measure.__init__" (defArgs s_Measure___init__) (defBody s_Measure___init__) (defScope s_Measure___init__) (.ref T) kV doc pm an cdv ct) ⟨us, []⟩ = seqItems? (.ref T) >>= k ∧ k (some its.toArray) = pure ((["self", "world", "factor"] : List Str).zip (us ++ its.drop 0)) :=
  fun _ _ _ _ _ _ _ us its h1 h2 => match us, its, h1, h2 with | [_, _], [_], _, _ => ⟨_, rfl, rfl⟩
theorem hb_Measure_entry_worth : ∀ (kV doc pm : Value) (an : Option Addr) (cdv ct : Value) (us : List Value), us.length = (["self", "thing", "entry"] : List Str).length → bindArgs (PySem.W.fnOf "entry_worth" "Measure.entry_worth" (defArgs s_Measure_entry_worth) (defBody s_Measure_entry_worth) (defScope s_Measure_entry_worth) .none kV doc pm an cdv ct) ⟨us, []⟩ = pure ((["self", "thing", "entry"] : List Str).zip us) :=
  fun _ _ _ _ _ _ us hl => match us, hl with | [_, _, _], _ => rfl
theorem hb_Measure_part : ∀ (kV doc pm : Value) (an : Option Addr) (cdv ct : Value) (us : List Value), us.length = (["self", "row", "thing", "entry"] : List Str).length → bindArgs (PySem.W.fnOf "part" "Measure.part" (defArgs s_Measure_part) (defBody s_Measure_part) (defScope s_Measure_part) .none kV doc pm an cdv ct) ⟨us, []⟩ = pure ((["self", "row", "thing", "entry"] : List Str).zip us) :=
  fun _ _ _ _ _ _ us hl => match us, hl with | [_, _, _, _], _ => rfl
theorem hb_is_tuple_of : ∀ (kV doc pm : Value) (an : Option Addr) (cdv ct : Value) (us : List Value), us.length = (["thing", "many"] : List Str).length → bindArgs (PySem.W.fnOf "is_tuple_of" "is_tuple_of" (defArgs s_is_tuple_of) (defBody s_is_tuple_of) (defScope s_is_tuple_of) .none kV doc pm an cdv ct) ⟨us, []⟩ = pure ((["thing", "many"] : List Str).zip us) :=
  fun _ _ _ _ _ _ us hl => match us, hl with | [_, _], _ => rfl
theorem hb_check_prices : ∀ (kV doc pm : Value) (an : Option Addr) (cdv ct : Value) (us : List Value), us.length = (["world", "divisor", "prices"] : List Str).length → bindArgs (PySem.W.fnOf "check_prices" "check_prices" (defArgs s_check_prices) (defBody s_check_prices) (defScope s_check_prices) .none kV doc pm an cdv ct) ⟨us, []⟩ = pure ((["world", "divisor", "prices"] : List Str).zip us) :=
  fun _ _ _ _ _ _ us hl => match us, hl with | [_, _, _], _ => rfl
theorem hb_bound : ∀ (kV doc pm : Value) (an : Option Addr) (cdv ct : Value) (us : List Value), us.length = (["world", "case", "divisor", "prices"] : List Str).length → bindArgs (PySem.W.fnOf "bound" "bound" (defArgs s_bound) (defBody s_bound) (defScope s_bound) .none kV doc pm an cdv ct) ⟨us, []⟩ = pure ((["world", "case", "divisor", "prices"] : List Str).zip us) :=
  fun _ _ _ _ _ _ us hl => match us, hl with | [_, _, _, _], _ => rfl
theorem hb_Nets___init__ : ∀ (kV doc pm : Value) (an : Option Addr) (cdv ct : Value) (us : List Value), us.length = (["self", "measure", "divisor", "prices"] : List Str).length → bindArgs (PySem.W.fnOf "__init__" "Nets.__init__" (defArgs s_Nets___init__) (defBody s_Nets___init__) (defScope s_Nets___init__) .none kV doc pm an cdv ct) ⟨us, []⟩ = pure ((["self", "measure", "divisor", "prices"] : List Str).zip us) :=
  fun _ _ _ _ _ _ us hl => match us, hl with | [_, _, _, _], _ => rfl
theorem hb_Nets_bound : ∀ (kV doc pm : Value) (an : Option Addr) (cdv ct : Value) (us : List Value), us.length = (["self", "case"] : List Str).length → bindArgs (PySem.W.fnOf "bound" "Nets.bound" (defArgs s_Nets_bound) (defBody s_Nets_bound) (defScope s_Nets_bound) .none kV doc pm an cdv ct) ⟨us, []⟩ = pure ((["self", "case"] : List Str).zip us) :=
  fun _ _ _ _ _ _ us hl => match us, hl with | [_, _], _ => rfl
theorem hb_Nets_net : ∀ (kV doc pm : Value) (an : Option Addr) (cdv ct : Value) (us : List Value), us.length = (["self", "thing", "entry"] : List Str).length → bindArgs (PySem.W.fnOf "net" "Nets.net" (defArgs s_Nets_net) (defBody s_Nets_net) (defScope s_Nets_net) .none kV doc pm an cdv ct) ⟨us, []⟩ = pure ((["self", "thing", "entry"] : List Str).zip us) :=
  fun _ _ _ _ _ _ us hl => match us, hl with | [_, _, _], _ => rfl
theorem hb_Nets_choice_net : ∀ (kV doc pm : Value) (an : Option Addr) (cdv ct : Value) (us : List Value), us.length = (["self", "thing", "entry"] : List Str).length → bindArgs (PySem.W.fnOf "choice_net" "Nets.choice_net" (defArgs s_Nets_choice_net) (defBody s_Nets_choice_net) (defScope s_Nets_choice_net) .none kV doc pm an cdv ct) ⟨us, []⟩ = pure ((["self", "thing", "entry"] : List Str).zip us) :=
  fun _ _ _ _ _ _ us hl => match us, hl with | [_, _, _], _ => rfl
theorem hb__law_row : ∀ (kV doc pm : Value) (an : Option Addr) (cdv ct : Value) (us : List Value), us.length = (["world", "cell"] : List Str).length → bindArgs (PySem.W.fnOf "_law_row" "_law_row" (defArgs s__law_row) (defBody s__law_row) (defScope s__law_row) .none kV doc pm an cdv ct) ⟨us, []⟩ = pure ((["world", "cell"] : List Str).zip us) :=
  fun _ _ _ _ _ _ us hl => match us, hl with | [_, _], _ => rfl
theorem hb__law_recording_part : ∀ (kV doc pm : Value) (an : Option Addr) (cdv ct : Value) (us : List Value), us.length = (["world", "row", "r", "option"] : List Str).length → bindArgs (PySem.W.fnOf "_law_recording_part" "_law_recording_part" (defArgs s__law_recording_part) (defBody s__law_recording_part) (defScope s__law_recording_part) .none kV doc pm an cdv ct) ⟨us, []⟩ = pure ((["world", "row", "r", "option"] : List Str).zip us) :=
  fun _ _ _ _ _ _ us hl => match us, hl with | [_, _, _, _], _ => rfl
theorem hb__law_pass_part : ∀ (kV doc pm : Value) (an : Option Addr) (cdv ct : Value) (us : List Value), us.length = (["world", "row", "p"] : List Str).length → bindArgs (PySem.W.fnOf "_law_pass_part" "_law_pass_part" (defArgs s__law_pass_part) (defBody s__law_pass_part) (defScope s__law_pass_part) .none kV doc pm an cdv ct) ⟨us, []⟩ = pure ((["world", "row", "p"] : List Str).zip us) :=
  fun _ _ _ _ _ _ us hl => match us, hl with | [_, _, _], _ => rfl
theorem hb__law_right : ∀ (kV doc pm : Value) (an : Option Addr) (cdv ct : Value) (us : List Value), us.length = (["world", "row"] : List Str).length → bindArgs (PySem.W.fnOf "_law_right" "_law_right" (defArgs s__law_right) (defBody s__law_right) (defScope s__law_right) .none kV doc pm an cdv ct) ⟨us, []⟩ = pure ((["world", "row"] : List Str).zip us) :=
  fun _ _ _ _ _ _ us hl => match us, hl with | [_, _], _ => rfl
theorem hb__law_case : ∀ (kV doc pm : Value) (an : Option Addr) (cdv ct : Value) (us : List Value), us.length = (["plan", "cell"] : List Str).length → bindArgs (PySem.W.fnOf "_law_case" "_law_case" (defArgs s__law_case) (defBody s__law_case) (defScope s__law_case) .none kV doc pm an cdv ct) ⟨us, []⟩ = pure ((["plan", "cell"] : List Str).zip us) :=
  fun _ _ _ _ _ _ us hl => match us, hl with | [_, _], _ => rfl
theorem hb__law_prices : ∀ (kV doc pm : Value) (an : Option Addr) (cdv ct : Value) (us : List Value), us.length = (["world", "script", "start", "count"] : List Str).length → bindArgs (PySem.W.fnOf "_law_prices" "_law_prices" (defArgs s__law_prices) (defBody s__law_prices) (defScope s__law_prices) .none kV doc pm an cdv ct) ⟨us, []⟩ = pure ((["world", "script", "start", "count"] : List Str).zip us) :=
  fun _ _ _ _ _ _ us hl => match us, hl with | [_, _, _, _], _ => rfl
theorem hb__law_recording_weight : ∀ (kV doc pm : Value) (an : Option Addr) (cdv ct : Value) (us : List Value), us.length = (["world", "r"] : List Str).length → bindArgs (PySem.W.fnOf "_law_recording_weight" "_law_recording_weight" (defArgs s__law_recording_weight) (defBody s__law_recording_weight) (defScope s__law_recording_weight) .none kV doc pm an cdv ct) ⟨us, []⟩ = pure ((["world", "r"] : List Str).zip us) :=
  fun _ _ _ _ _ _ us hl => match us, hl with | [_, _], _ => rfl
theorem hb__law_gain : ∀ (kV doc pm : Value) (an : Option Addr) (cdv ct : Value) (us : List Value), us.length = (["world", "divisor", "prices", "r", "option"] : List Str).length → bindArgs (PySem.W.fnOf "_law_gain" "_law_gain" (defArgs s__law_gain) (defBody s__law_gain) (defScope s__law_gain) .none kV doc pm an cdv ct) ⟨us, []⟩ = pure ((["world", "divisor", "prices", "r", "option"] : List Str).zip us) :=
  fun _ _ _ _ _ _ us hl => match us, hl with | [_, _, _, _, _], _ => rfl
theorem hb__law_bound : ∀ (kV doc pm : Value) (an : Option Addr) (cdv ct : Value) (us : List Value), us.length = (["world", "case", "divisor", "prices"] : List Str).length → bindArgs (PySem.W.fnOf "_law_bound" "_law_bound" (defArgs s__law_bound) (defBody s__law_bound) (defScope s__law_bound) .none kV doc pm an cdv ct) ⟨us, []⟩ = pure ((["world", "case", "divisor", "prices"] : List Str).zip us) :=
  fun _ _ _ _ _ _ us hl => match us, hl with | [_, _, _, _], _ => rfl
theorem hb_law : ∀ (kV doc pm : Value) (an : Option Addr) (cdv ct : Value) (us : List Value), us.length = (["script"] : List Str).length → bindArgs (PySem.W.fnOf "law" "law" (defArgs s_law) (defBody s_law) (defScope s_law) .none kV doc pm an cdv ct) ⟨us, []⟩ = pure ((["script"] : List Str).zip us) :=
  fun _ _ _ _ _ _ us hl => match us, hl with | [_], _ => rfl
theorem fin {l : PySem.W.OpenLaw} {w : World} {K : PySem.W.Frag} {mg : Str → Option Value} {fa CL CS CT CR CP CW aS aR fS fT fR fP aM CM CZ : Addr} (hfa : mg "law" = some (.ref fa)) (T : TxtW K mg CL CS CT CR CP CW aS aR fS fT fR fP) (F : PF K mg CL CS CT CR CP CW)
    (a__law_cell : At K mg "_law_cell" s__law_cell ["script", "k"])
    (a__law_draws : At K mg "_law_draws" s__law_draws ["cell", "count"])
    (a__law_satellite : At K mg "_law_satellite" s__law_satellite ["cell", "k"])
    (a__law_recording : At K mg "_law_recording" s__law_recording ["cell", "k", "satellites"])
    (a__law_pass : At K mg "_law_pass" s__law_pass ["cell", "k", "satellites", "stations"])
    (a__law_text : At K mg "_law_text" s__law_text ["script", "recordings", "passes"])
    (a__law_world : At K mg "_law_world" s__law_world ["script"])
    (a__law_options : At K mg "_law_options" s__law_options ["world", "r"])
    (a__law_drawn : At K mg "_law_drawn" s__law_drawn ["world", "cell"])
    (a_has_minute : At K mg "has_minute" s_has_minute ["span", "minute"])
    (a_lengthened : At K mg "lengthened" s_lengthened ["span", "minutes"])
    (a_busy_part : At K mg "busy_part" s_busy_part ["world", "number", "span", "minute"])
    (a_is_spent : At K mg "is_spent" s_is_spent ["first", "minutes"])
    (a_minutes_within : At K mg "minutes_within" s_minutes_within ["spans", "first", "end"])
    (a_light_minutes : At K mg "light_minutes" s_light_minutes ["satellite", "first", "end"])
    (a_charged : At K mg "charged" s_charged ["satellite", "first", "end"])
    (a_right_side : At K mg "right_side" s_right_side ["world", "row"])
    (a_recording_part : At K mg "recording_part" s_recording_part ["world", "row", "r", "option"])
    (a_pass_part : At K mg "pass_part" s_pass_part ["world", "row", "p"])
    (a_is_integer : At K mg "is_integer" s_is_integer ["thing"])
    (a_has_row_form : At K mg "has_row_form" s_has_row_form ["row"])
    (a_things_of : At K mg "things_of" s_things_of ["world", "word"])
    (a_check_row : At K mg "check_row" s_check_row ["world", "row"])
    (a_is_option : At K mg "is_option" s_is_option ["world", "number", "pair"])
    (a_options : At K mg "options" s_options ["world", "number"])
    (a_base_of : At K mg "base_of" s_base_of ["world"])
    (a_recording_weight : At K mg "recording_weight" s_recording_weight ["world", "r"])
    (a_recording_choices : At K mg "recording_choices" s_recording_choices ["world", "r"])
    (a_pass_choices : At K mg "pass_choices" s_pass_choices ["world", "p"])
    (a_entries_of : At K mg "entries_of" s_entries_of ["case"])
    (a_Measure___init__ : MAtD K CM "__init__" "Measure.__init__" s_Measure___init__ ["self", "world", "factor"] [.int 1])
    (a_Measure_entry_worth : MAt K CM "entry_worth" "Measure.entry_worth" s_Measure_entry_worth ["self", "thing", "entry"])
    (a_Measure_part : MAt K CM "part" "Measure.part" s_Measure_part ["self", "row", "thing", "entry"])
    (a_is_tuple_of : At K mg "is_tuple_of" s_is_tuple_of ["thing", "many"])
    (a_check_prices : At K mg "check_prices" s_check_prices ["world", "divisor", "prices"])
    (a_bound : At K mg "bound" s_bound ["world", "case", "divisor", "prices"])
    (a_Nets___init__ : MAt K CZ "__init__" "Nets.__init__" s_Nets___init__ ["self", "measure", "divisor", "prices"])
    (a_Nets_bound : MAt K CZ "bound" "Nets.bound" s_Nets_bound ["self", "case"])
    (a_Nets_net : MAt K CZ "net" "Nets.net" s_Nets_net ["self", "thing", "entry"])
    (a_Nets_choice_net : MAt K CZ "choice_net" "Nets.choice_net" s_Nets_choice_net ["self", "thing", "entry"])
    (a__law_row : At K mg "_law_row" s__law_row ["world", "cell"])
    (a__law_recording_part : At K mg "_law_recording_part" s__law_recording_part ["world", "row", "r", "option"])
    (a__law_pass_part : At K mg "_law_pass_part" s__law_pass_part ["world", "row", "p"])
    (a__law_right : At K mg "_law_right" s__law_right ["world", "row"])
    (a__law_case : At K mg "_law_case" s__law_case ["plan", "cell"])
    (a__law_prices : At K mg "_law_prices" s__law_prices ["world", "script", "start", "count"])
    (a__law_recording_weight : At K mg "_law_recording_weight" s__law_recording_weight ["world", "r"])
    (a__law_gain : At K mg "_law_gain" s__law_gain ["world", "divisor", "prices", "r", "option"])
    (a__law_bound : At K mg "_law_bound" s__law_bound ["world", "case", "divisor", "prices"])
    (a_law : At K mg "law" s_law ["script"])
    (TR : TxtR K w mg aM)
    (TM : TxtM K mg CM)
    (TN : TxtN K mg CM CZ)
    : ∃ fd : FuncData, (∀ (s : Shared) (v : Value), BindsTo s fd ⟨[v], []⟩ [("script", v)]) ∧ ∀ base : Heap, K.In base → base.Ns mainGlobals mg → FnOk l.prog w K mg base CX0 9 fa fd ["script"] (spLaw K) :=
  a_law.end_ hfa (fun base => the_law T F a__law_cell a__law_draws a__law_satellite a__law_recording a__law_pass a__law_text a__law_world a__law_options a__law_drawn a_has_minute a_lengthened a_busy_part a_is_spent a_minutes_within a_light_minutes a_charged a_right_side a_recording_part a_pass_part a_is_integer a_has_row_form a_things_of a_check_row a_is_option a_options a_base_of a_recording_weight a_recording_choices a_pass_choices a_entries_of a_Measure___init__ a_Measure_entry_worth a_Measure_part a_is_tuple_of a_check_prices a_bound a_Nets___init__ a_Nets_bound a_Nets_net a_Nets_choice_net a__law_row a__law_recording_part a__law_pass_part a__law_right a__law_case a__law_prices a__law_recording_weight a__law_gain a__law_bound a_law TR TM TN) (fun _ _ _ _ _ _ _ => rfl)
end DP
open PySem PySem.W PyProof.Rows
set_option maxHeartbeats 0 in
theorem PySem.Challenge.cw_downpass_k54_bounds_holds : PySem.Challenge.rw_downpass_k54_bounds.Holds := by
  w_on; o_law; k_head; (case hw => w_witness2)
  k_fill
  refine L2.walk_of (l := PySem.Challenge.rw_downpass_k54_bounds) (n := 63) (k := 9) (x := "script") (CX := fun _ => L2.CX0) (sp := fun w => DP.spLaw _) rfl (by decide) rfl ⟨rfl, by decide, by decide⟩ (fun w h Y => PySem.W.kIn_of Y) ?F (fun _ _ a ns hl _ hS => ⟨a, ns, rfl, hS, fun _ => rfl⟩) (fun _ _ _ _ _ h => h)
  case F =>
    intro w mg fa h KX G hmg
    refine' DP.fin hmg ⟨⟨⟨?z_len, ?z_range, ?z_int, ?z_isinstance, ?z_bool, ?z_str, ?z_tuple, ?z_list, ?z_sum, ?z_max, ?z_min, ?z_all, ?z_enumerate⟩, ?c_Line, ?n_Line_number, ?n_Line_words, ?n_Line_read, ?n_Line_column, ?g_LETTERS, ?g_DIGITS, ?g_MOST_NAME, ?g_MOST_DIGITS⟩, ?c_Satellite, ?c_Station, ?c_Recording, ?c_Pass, ?c_World, ?n_Satellite_name, ?n_Satellite_store, ?n_Satellite_battery, ?n_Satellite_start_level, ?n_Satellite_reserve, ?n_Satellite_charge, ?n_Satellite_settle, ?n_Satellite_light, ?n_Station_name, ?n_Station_antennas, ?n_Station_turn, ?n_Recording_name, ?n_Recording_satellite, ?n_Recording_earliest, ?n_Recording_latest, ?n_Recording_length, ?n_Recording_size, ?n_Recording_energy, ?n_Recording_worth, ?n_Recording_rank, ?n_Recording_deadline, ?n_Pass_name, ?n_Pass_satellite, ?n_Pass_station, ?n_Pass_span, ?n_Pass_room, ?n_Pass_energy, ?n_Pass_fee, ?n_World_text, ?n_World_horizon, ?n_World_satellites, ?n_World_stations, ?n_World_recordings, ?n_World_passes, ?g_SATELLITES, ?g_STATIONS, ?g_RECORDINGS, ?g_PASSES, ?g_MOST_UNITS, ?g_MOST_CHARGE, ?g_MOST_DELAY, ?g_MOST_ANTENNAS, ?g_MOST_WORTH, ?g_MOST_RANK, ?g_MOST_FEE, ?g_SORTS, ?t_SORTS, ?k_SORTS, ?g_READERS, ?t_READERS, ?r_satellite, ?r_station, ?r_recording, ?r_pass, ?rdW, ?v_MOST_HORIZON, ?v_MOST_SATELLITES, ?v_MOST_STATIONS, ?v_MOST_RECORDINGS, ?v_MOST_PASSES, ?v_MOST_SHIFT⟩ ⟨?p_names_of, ?p_read_light, ?p_read_satellite, ?p_read_station, ?p_read_recording, ?p_read_pass, ?p_most_things, ?p_read_sort, ?p_read_things, ?p_lines_of, ?p_is_name, ?p_is_number, ?p_Line___init__, ?p_Line_has_more, ?p_Line_due, ?p_Line_step, ?p_Line_read_choice, ?p_Line_read_number, ?p_Line_read_field, ?p_Line_due_name, ?p_Line_read_new_name, ?p_Line_read_known_name, ?p_Line_finish, ?p_Satellite___init__, ?p_Station___init__, ?p_Recording___init__, ?p_Pass___init__, ?p_World___init__, ?p_World_parse⟩ ?a__law_cell ?a__law_draws ?a__law_satellite ?a__law_recording ?a__law_pass ?a__law_text ?a__law_world ?a__law_options ?a__law_drawn ?a_has_minute ?a_lengthened ?a_busy_part ?a_is_spent ?a_minutes_within ?a_light_minutes ?a_charged ?a_right_side ?a_recording_part ?a_pass_part ?a_is_integer ?a_has_row_form ?a_things_of ?a_check_row ?a_is_option ?a_options ?a_base_of ?a_recording_weight ?a_recording_choices ?a_pass_choices ?a_entries_of ?a_Measure___init__ ?a_Measure_entry_worth ?a_Measure_part ?a_is_tuple_of ?a_check_prices ?a_bound ?a_Nets___init__ ?a_Nets_bound ?a_Nets_net ?a_Nets_choice_net ?a__law_row ?a__law_recording_part ?a__law_pass_part ?a__law_right ?a__law_case ?a__law_prices ?a__law_recording_weight ?a__law_gain ?a__law_bound ?a_law ?TR ?TM ?TN
    (case c_Line => (refine' DP.cls_mk KX G ?g_u17 ?pg_u17 ?hd_u17 ?po_u17 ?sa_u17 ?mk_u17 ?kp_u17; (case g_u17 => k_is); (case pg_u17 => k_is); (case hd_u17 => k_is); (case po_u17 => k_is); (case sa_u17 => k_is); (case mk_u17 => k_is); (case kp_u17 => k_is)))
    (case c_Satellite => (refine' DP.cls_mk KX G ?g_u18 ?pg_u18 ?hd_u18 ?po_u18 ?sa_u18 ?mk_u18 ?kp_u18; (case g_u18 => k_is); (case pg_u18 => k_is); (case hd_u18 => k_is); (case po_u18 => k_is); (case sa_u18 => k_is); (case mk_u18 => k_is); (case kp_u18 => k_is)))
    (case c_Station => (refine' DP.cls_mk KX G ?g_u19 ?pg_u19 ?hd_u19 ?po_u19 ?sa_u19 ?mk_u19 ?kp_u19; (case g_u19 => k_is); (case pg_u19 => k_is); (case hd_u19 => k_is); (case po_u19 => k_is); (case sa_u19 => k_is); (case mk_u19 => k_is); (case kp_u19 => k_is)))
    (case c_Recording => (refine' DP.cls_mk KX G ?g_u20 ?pg_u20 ?hd_u20 ?po_u20 ?sa_u20 ?mk_u20 ?kp_u20; (case g_u20 => k_is); (case pg_u20 => k_is); (case hd_u20 => k_is); (case po_u20 => k_is); (case sa_u20 => k_is); (case mk_u20 => k_is); (case kp_u20 => k_is)))
    (case c_Pass => (refine' DP.cls_mk KX G ?g_u21 ?pg_u21 ?hd_u21 ?po_u21 ?sa_u21 ?mk_u21 ?kp_u21; (case g_u21 => k_is); (case pg_u21 => k_is); (case hd_u21 => k_is); (case po_u21 => k_is); (case sa_u21 => k_is); (case mk_u21 => k_is); (case kp_u21 => k_is)))
    (case c_World => (refine' DP.cls_mk KX G ?g_u22 ?pg_u22 ?hd_u22 ?po_u22 ?sa_u22 ?mk_u22 ?kp_u22; (case g_u22 => k_is); (case pg_u22 => k_is); (case hd_u22 => k_is); (case po_u22 => k_is); (case sa_u22 => k_is); (case mk_u22 => k_is); (case kp_u22 => k_is)))
    (case TR => (refine' ⟨PySem.W.mg_of KX G ?rm0, ⟨_, _, ⟨?rm1, ?rm2, ?rm3⟩⟩, ⟨_, ?rm4⟩, ⟨_, ?rm5⟩, ⟨_, ?rm6⟩, ⟨_, ?rm7⟩, ⟨_, ?rm8⟩, ⟨_, ?rm9⟩⟩; (case rm0 => k_is); (case rm1 => k_is); (case rm2 => k_keys); (case rm3 => decide); (case rm4 => exact rfl); (case rm5 => exact rfl); (case rm6 => exact rfl); (case rm7 => exact rfl); (case rm8 => exact rfl); (case rm9 => exact rfl)))
    (case TM => (refine' ⟨DP.cls_mk KX G ?mg0 ?mpg ?mhd ?mpo ?msa ?mmk ?mkp, ?mn1, ?mn2, ?mn3, ?mn4⟩; (case mg0 => k_is); (case mpg => k_is); (case mhd => k_is); (case mpo => k_is); (case msa => k_is); (case mmk => k_is); (case mkp => k_is); (case mn1 => (show PySem.W.findIn _ _ _ = some none; k_is)); (case mn2 => (show PySem.W.findIn _ _ _ = some none; k_is)); (case mn3 => (show PySem.W.findIn _ _ _ = some none; k_is)); (case mn4 => (show PySem.W.findIn _ _ _ = some none; k_is))))
    (case TN => (refine' ⟨DP.cls_mk KX G ?ng0 ?npg ?nhd ?npo ?nsa ?nmk ?nkp, DP.cls_mk KX G ?zg0 ?zpg ?zhd ?zpo ?zsa ?zmk ?zkp, ?zn1, ?zn2, ?zn3, ?zn4, ?zn5, ?zn6, ?zn7, DP.str_mk KX G ?zn8⟩; (case ng0 => k_is); (case npg => k_is); (case nhd => k_is); (case npo => k_is); (case nsa => k_is); (case nmk => k_is); (case nkp => k_is); (case zg0 => k_is); (case zpg => k_is); (case zhd => k_is); (case zpo => k_is); (case zsa => k_is); (case zmk => k_is); (case zkp => k_is); (case zn1 => (show PySem.W.findIn _ _ _ = some none; k_is)); (case zn2 => (show PySem.W.findIn _ _ _ = some none; k_is)); (case zn3 => (show PySem.W.findIn _ _ _ = some none; k_is)); (case zn4 => (show PySem.W.findIn _ _ _ = some none; k_is)); (case zn5 => (show PySem.W.findIn _ _ _ = some none; k_is)); (case zn6 => (show PySem.W.findIn _ _ _ = some none; k_is)); (case zn7 => (show PySem.W.findIn _ _ _ = some none; k_is)); (case zn8 => k_is)))
    (case r_satellite => (refine' PySem.W.mg_of KX G ?q_u38; (case q_u38 => k_is)))
    (case r_station => (refine' PySem.W.mg_of KX G ?q_u39; (case q_u39 => k_is)))
    (case r_recording => (refine' PySem.W.mg_of KX G ?q_u40; (case q_u40 => k_is)))
    (case r_pass => (refine' PySem.W.mg_of KX G ?q_u41; (case q_u41 => k_is)))
    (case g_SORTS => (refine' PySem.W.mg_of KX G ?q_u42; (case q_u42 => k_is)))
    (case t_SORTS => (refine' DP.tup4s_mk ?q_u43; (case q_u43 => k_is)))
    (case k_SORTS => (refine' DP.tupk_mk ?q_u44; (case q_u44 => k_is)))
    (case g_READERS => (refine' PySem.W.mg_of KX G ?q_u45; (case q_u45 => k_is)))
    (case t_READERS => (refine' DP.tup4r_mk ?q_u46; (case q_u46 => k_is)))
    (case n_Line_number => (show PySem.W.findIn _ _ _ = some none; k_is))
    (case n_Line_words => (show PySem.W.findIn _ _ _ = some none; k_is))
    (case n_Line_read => (show PySem.W.findIn _ _ _ = some none; k_is))
    (case n_Line_column => (show PySem.W.findIn _ _ _ = some none; k_is))
    (case n_Satellite_name => (show PySem.W.findIn _ _ _ = some none; k_is))
    (case n_Satellite_store => (show PySem.W.findIn _ _ _ = some none; k_is))
    (case n_Satellite_battery => (show PySem.W.findIn _ _ _ = some none; k_is))
    (case n_Satellite_start_level => (show PySem.W.findIn _ _ _ = some none; k_is))
    (case n_Satellite_reserve => (show PySem.W.findIn _ _ _ = some none; k_is))
    (case n_Satellite_charge => (show PySem.W.findIn _ _ _ = some none; k_is))
    (case n_Satellite_settle => (show PySem.W.findIn _ _ _ = some none; k_is))
    (case n_Satellite_light => (show PySem.W.findIn _ _ _ = some none; k_is))
    (case n_Station_name => (show PySem.W.findIn _ _ _ = some none; k_is))
    (case n_Station_antennas => (show PySem.W.findIn _ _ _ = some none; k_is))
    (case n_Station_turn => (show PySem.W.findIn _ _ _ = some none; k_is))
    (case n_Recording_name => (show PySem.W.findIn _ _ _ = some none; k_is))
    (case n_Recording_satellite => (show PySem.W.findIn _ _ _ = some none; k_is))
    (case n_Recording_earliest => (show PySem.W.findIn _ _ _ = some none; k_is))
    (case n_Recording_latest => (show PySem.W.findIn _ _ _ = some none; k_is))
    (case n_Recording_length => (show PySem.W.findIn _ _ _ = some none; k_is))
    (case n_Recording_size => (show PySem.W.findIn _ _ _ = some none; k_is))
    (case n_Recording_energy => (show PySem.W.findIn _ _ _ = some none; k_is))
    (case n_Recording_worth => (show PySem.W.findIn _ _ _ = some none; k_is))
    (case n_Recording_rank => (show PySem.W.findIn _ _ _ = some none; k_is))
    (case n_Recording_deadline => (show PySem.W.findIn _ _ _ = some none; k_is))
    (case n_Pass_name => (show PySem.W.findIn _ _ _ = some none; k_is))
    (case n_Pass_satellite => (show PySem.W.findIn _ _ _ = some none; k_is))
    (case n_Pass_station => (show PySem.W.findIn _ _ _ = some none; k_is))
    (case n_Pass_span => (show PySem.W.findIn _ _ _ = some none; k_is))
    (case n_Pass_room => (show PySem.W.findIn _ _ _ = some none; k_is))
    (case n_Pass_energy => (show PySem.W.findIn _ _ _ = some none; k_is))
    (case n_Pass_fee => (show PySem.W.findIn _ _ _ = some none; k_is))
    (case n_World_text => (show PySem.W.findIn _ _ _ = some none; k_is))
    (case n_World_horizon => (show PySem.W.findIn _ _ _ = some none; k_is))
    (case n_World_satellites => (show PySem.W.findIn _ _ _ = some none; k_is))
    (case n_World_stations => (show PySem.W.findIn _ _ _ = some none; k_is))
    (case n_World_recordings => (show PySem.W.findIn _ _ _ = some none; k_is))
    (case n_World_passes => (show PySem.W.findIn _ _ _ = some none; k_is))
    (case z_len => (refine' PySem.W.mg_none_of KX G ?q_u1; (case q_u1 => k_is)))
    (case z_range => (refine' PySem.W.mg_none_of KX G ?q_u2; (case q_u2 => k_is)))
    (case z_int => (refine' PySem.W.mg_none_of KX G ?q_u3; (case q_u3 => k_is)))
    (case z_isinstance => (refine' PySem.W.mg_none_of KX G ?q_u5; (case q_u5 => k_is)))
    (case z_bool => (refine' PySem.W.mg_none_of KX G ?q_u6; (case q_u6 => k_is)))
    (case z_str => (refine' PySem.W.mg_none_of KX G ?q_u7; (case q_u7 => k_is)))
    (case z_tuple => (refine' PySem.W.mg_none_of KX G ?q_u8; (case q_u8 => k_is)))
    (case z_list => (refine' PySem.W.mg_none_of KX G ?q_u9; (case q_u9 => k_is)))
    (case z_sum => (refine' PySem.W.mg_none_of KX G ?q_u10; (case q_u10 => k_is)))
    (case z_max => (refine' PySem.W.mg_none_of KX G ?q_u11; (case q_u11 => k_is)))
    (case z_min => (refine' PySem.W.mg_none_of KX G ?q_u12; (case q_u12 => k_is)))
    (case z_all => (refine' PySem.W.mg_none_of KX G ?q_u13; (case q_u13 => k_is)))
    (case z_enumerate => (refine' PySem.W.mg_none_of KX G ?q_u14; (case q_u14 => k_is)))
    (case g_LETTERS => (refine' DP.str_mk KX G ?q_u23; (case q_u23 => k_is)))
    (case g_DIGITS => (refine' DP.str_mk KX G ?q_u24; (case q_u24 => k_is)))
    (case g_MOST_NAME => (refine' DP.int_mk KX G ?q_u25; (case q_u25 => k_is)))
    (case g_MOST_DIGITS => (refine' DP.int_mk KX G ?q_u26; (case q_u26 => k_is)))
    (case g_SATELLITES => (refine' DP.int_mk KX G ?q_u27; (case q_u27 => k_is)))
    (case g_STATIONS => (refine' DP.int_mk KX G ?q_u28; (case q_u28 => k_is)))
    (case g_RECORDINGS => (refine' DP.int_mk KX G ?q_u29; (case q_u29 => k_is)))
    (case g_PASSES => (refine' DP.int_mk KX G ?q_u30; (case q_u30 => k_is)))
    (case g_MOST_UNITS => (refine' DP.int_mk KX G ?q_u31; (case q_u31 => k_is)))
    (case g_MOST_CHARGE => (refine' DP.int_mk KX G ?q_u32; (case q_u32 => k_is)))
    (case g_MOST_DELAY => (refine' DP.int_mk KX G ?q_u33; (case q_u33 => k_is)))
    (case g_MOST_ANTENNAS => (refine' DP.int_mk KX G ?q_u34; (case q_u34 => k_is)))
    (case g_MOST_WORTH => (refine' DP.int_mk KX G ?q_u35; (case q_u35 => k_is)))
    (case g_MOST_RANK => (refine' DP.int_mk KX G ?q_u36; (case q_u36 => k_is)))
    (case g_MOST_FEE => (refine' DP.int_mk KX G ?q_u37; (case q_u37 => k_is)))
    (case rdW => (refine' ⟨?rd_u47, ?ga_u47⟩; (case rd_u47 => k_is); (case ga_u47 => k_is)))
    (case v_MOST_HORIZON => (refine' DP.cval_mk ?q_u48; (case q_u48 => k_is)))
    (case v_MOST_SATELLITES => (refine' DP.cval_mk ?q_u49; (case q_u49 => k_is)))
    (case v_MOST_STATIONS => (refine' DP.cval_mk ?q_u50; (case q_u50 => k_is)))
    (case v_MOST_RECORDINGS => (refine' DP.cval_mk ?q_u51; (case q_u51 => k_is)))
    (case v_MOST_PASSES => (refine' DP.cval_mk ?q_u52; (case q_u52 => k_is)))
    (case v_MOST_SHIFT => (refine' DP.cval_mk ?q_u53; (case q_u53 => k_is)))
    (case p_names_of => (refine' DP.at_mk KX G ?a_u54 ?l_u54 ?c_u54 ?k_u54 DP.hb_names_of; (case a_u54 => k_is); (case l_u54 => k_is); (case c_u54 => k_is); (case k_u54 => k_is)))
    (case p_read_light => (refine' DP.at_mk KX G ?a_u55 ?l_u55 ?c_u55 ?k_u55 DP.hb_read_light; (case a_u55 => k_is); (case l_u55 => k_is); (case c_u55 => k_is); (case k_u55 => k_is)))
    (case p_read_satellite => (refine' DP.at_mk KX G ?a_u56 ?l_u56 ?c_u56 ?k_u56 DP.hb_read_satellite; (case a_u56 => k_is); (case l_u56 => k_is); (case c_u56 => k_is); (case k_u56 => k_is)))
    (case p_read_station => (refine' DP.at_mk KX G ?a_u57 ?l_u57 ?c_u57 ?k_u57 DP.hb_read_station; (case a_u57 => k_is); (case l_u57 => k_is); (case c_u57 => k_is); (case k_u57 => k_is)))
    (case p_read_recording => (refine' DP.at_mk KX G ?a_u58 ?l_u58 ?c_u58 ?k_u58 DP.hb_read_recording; (case a_u58 => k_is); (case l_u58 => k_is); (case c_u58 => k_is); (case k_u58 => k_is)))
    (case p_read_pass => (refine' DP.at_mk KX G ?a_u59 ?l_u59 ?c_u59 ?k_u59 DP.hb_read_pass; (case a_u59 => k_is); (case l_u59 => k_is); (case c_u59 => k_is); (case k_u59 => k_is)))
    (case p_most_things => (refine' DP.at_mk KX G ?a_u60 ?l_u60 ?c_u60 ?k_u60 DP.hb_most_things; (case a_u60 => k_is); (case l_u60 => k_is); (case c_u60 => k_is); (case k_u60 => k_is)))
    (case p_read_sort => (refine' DP.at_mk KX G ?a_u61 ?l_u61 ?c_u61 ?k_u61 DP.hb_read_sort; (case a_u61 => k_is); (case l_u61 => k_is); (case c_u61 => k_is); (case k_u61 => k_is)))
    (case p_read_things => (refine' DP.at_mk KX G ?a_u62 ?l_u62 ?c_u62 ?k_u62 DP.hb_read_things; (case a_u62 => k_is); (case l_u62 => k_is); (case c_u62 => k_is); (case k_u62 => k_is)))
    (case p_lines_of => (refine' DP.at_mk KX G ?a_u63 ?l_u63 ?c_u63 ?k_u63 DP.hb_lines_of; (case a_u63 => k_is); (case l_u63 => k_is); (case c_u63 => k_is); (case k_u63 => k_is)))
    (case p_is_name => (refine' DP.at_mk KX G ?a_u64 ?l_u64 ?c_u64 ?k_u64 DP.hb_is_name; (case a_u64 => k_is); (case l_u64 => k_is); (case c_u64 => k_is); (case k_u64 => k_is)))
    (case p_is_number => (refine' DP.at_mk KX G ?a_u65 ?l_u65 ?c_u65 ?k_u65 DP.hb_is_number; (case a_u65 => k_is); (case l_u65 => k_is); (case c_u65 => k_is); (case k_u65 => k_is)))
    (case p_Line___init__ => (refine' DP.met_mk ?a_u66 ?i_u66 ?l_u66 ?c_u66 ?k_u66 DP.hb_Line___init__; (case a_u66 => k_is); (case i_u66 => k_is); (case l_u66 => k_is); (case c_u66 => k_is); (case k_u66 => k_is)))
    (case p_Line_has_more => (refine' DP.met_mk ?a_u67 ?i_u67 ?l_u67 ?c_u67 ?k_u67 DP.hb_Line_has_more; (case a_u67 => k_is); (case i_u67 => k_is); (case l_u67 => k_is); (case c_u67 => k_is); (case k_u67 => k_is)))
    (case p_Line_due => (refine' DP.met_mk ?a_u68 ?i_u68 ?l_u68 ?c_u68 ?k_u68 DP.hb_Line_due; (case a_u68 => k_is); (case i_u68 => k_is); (case l_u68 => k_is); (case c_u68 => k_is); (case k_u68 => k_is)))
    (case p_Line_step => (refine' DP.met_mk ?a_u69 ?i_u69 ?l_u69 ?c_u69 ?k_u69 DP.hb_Line_step; (case a_u69 => k_is); (case i_u69 => k_is); (case l_u69 => k_is); (case c_u69 => k_is); (case k_u69 => k_is)))
    (case p_Line_read_choice => (refine' DP.met_mk ?a_u70 ?i_u70 ?l_u70 ?c_u70 ?k_u70 DP.hb_Line_read_choice; (case a_u70 => k_is); (case i_u70 => k_is); (case l_u70 => k_is); (case c_u70 => k_is); (case k_u70 => k_is)))
    (case p_Line_read_number => (refine' DP.met_mk ?a_u71 ?i_u71 ?l_u71 ?c_u71 ?k_u71 DP.hb_Line_read_number; (case a_u71 => k_is); (case i_u71 => k_is); (case l_u71 => k_is); (case c_u71 => k_is); (case k_u71 => k_is)))
    (case p_Line_read_field => (refine' DP.met_mk ?a_u72 ?i_u72 ?l_u72 ?c_u72 ?k_u72 DP.hb_Line_read_field; (case a_u72 => k_is); (case i_u72 => k_is); (case l_u72 => k_is); (case c_u72 => k_is); (case k_u72 => k_is)))
    (case p_Line_due_name => (refine' DP.met_mk ?a_u73 ?i_u73 ?l_u73 ?c_u73 ?k_u73 DP.hb_Line_due_name; (case a_u73 => k_is); (case i_u73 => k_is); (case l_u73 => k_is); (case c_u73 => k_is); (case k_u73 => k_is)))
    (case p_Line_read_new_name => (refine' DP.met_mk ?a_u74 ?i_u74 ?l_u74 ?c_u74 ?k_u74 DP.hb_Line_read_new_name; (case a_u74 => k_is); (case i_u74 => k_is); (case l_u74 => k_is); (case c_u74 => k_is); (case k_u74 => k_is)))
    (case p_Line_read_known_name => (refine' DP.metD_mk ?a_u75 ?i_u75 ?l_u75 ?lT_u75 ?c_u75 ?k_u75 2 rfl DP.hb_Line_read_known_name; (case a_u75 => k_is); (case i_u75 => k_is); (case l_u75 => k_is); (case lT_u75 => k_is); (case c_u75 => k_is); (case k_u75 => k_is)))
    (case p_Line_finish => (refine' DP.met_mk ?a_u76 ?i_u76 ?l_u76 ?c_u76 ?k_u76 DP.hb_Line_finish; (case a_u76 => k_is); (case i_u76 => k_is); (case l_u76 => k_is); (case c_u76 => k_is); (case k_u76 => k_is)))
    (case p_Satellite___init__ => (refine' DP.met_mk ?a_u77 ?i_u77 ?l_u77 ?c_u77 ?k_u77 DP.hb_Satellite___init__; (case a_u77 => k_is); (case i_u77 => k_is); (case l_u77 => k_is); (case c_u77 => k_is); (case k_u77 => k_is)))
    (case p_Station___init__ => (refine' DP.met_mk ?a_u78 ?i_u78 ?l_u78 ?c_u78 ?k_u78 DP.hb_Station___init__; (case a_u78 => k_is); (case i_u78 => k_is); (case l_u78 => k_is); (case c_u78 => k_is); (case k_u78 => k_is)))
    (case p_Recording___init__ => (refine' DP.met_mk ?a_u79 ?i_u79 ?l_u79 ?c_u79 ?k_u79 DP.hb_Recording___init__; (case a_u79 => k_is); (case i_u79 => k_is); (case l_u79 => k_is); (case c_u79 => k_is); (case k_u79 => k_is)))
    (case p_Pass___init__ => (refine' DP.met_mk ?a_u80 ?i_u80 ?l_u80 ?c_u80 ?k_u80 DP.hb_Pass___init__; (case a_u80 => k_is); (case i_u80 => k_is); (case l_u80 => k_is); (case c_u80 => k_is); (case k_u80 => k_is)))
    (case p_World___init__ => (refine' DP.met_mk ?a_u81 ?i_u81 ?l_u81 ?c_u81 ?k_u81 DP.hb_World___init__; (case a_u81 => k_is); (case i_u81 => k_is); (case l_u81 => k_is); (case c_u81 => k_is); (case k_u81 => k_is)))
    (case p_World_parse => (refine' DP.smet_mk ?a_u82 ?r_u82 ?l_u82 ?c_u82 ?k_u82 DP.hb_World_parse; (case a_u82 => k_is); (case r_u82 => k_is); (case l_u82 => k_is); (case c_u82 => k_is); (case k_u82 => k_is)))
    (case a__law_cell => (refine' DP.at_mk KX G ?a_u83 ?l_u83 ?c_u83 ?k_u83 DP.hb__law_cell; (case a_u83 => k_is); (case l_u83 => k_is); (case c_u83 => k_is); (case k_u83 => k_is)))
    (case a__law_draws => (refine' DP.at_mk KX G ?a_u84 ?l_u84 ?c_u84 ?k_u84 DP.hb__law_draws; (case a_u84 => k_is); (case l_u84 => k_is); (case c_u84 => k_is); (case k_u84 => k_is)))
    (case a__law_satellite => (refine' DP.at_mk KX G ?a_u85 ?l_u85 ?c_u85 ?k_u85 DP.hb__law_satellite; (case a_u85 => k_is); (case l_u85 => k_is); (case c_u85 => k_is); (case k_u85 => k_is)))
    (case a__law_recording => (refine' DP.at_mk KX G ?a_u86 ?l_u86 ?c_u86 ?k_u86 DP.hb__law_recording; (case a_u86 => k_is); (case l_u86 => k_is); (case c_u86 => k_is); (case k_u86 => k_is)))
    (case a__law_pass => (refine' DP.at_mk KX G ?a_u87 ?l_u87 ?c_u87 ?k_u87 DP.hb__law_pass; (case a_u87 => k_is); (case l_u87 => k_is); (case c_u87 => k_is); (case k_u87 => k_is)))
    (case a__law_text => (refine' DP.at_mk KX G ?a_u88 ?l_u88 ?c_u88 ?k_u88 DP.hb__law_text; (case a_u88 => k_is); (case l_u88 => k_is); (case c_u88 => k_is); (case k_u88 => k_is)))
    (case a__law_world => (refine' DP.at_mk KX G ?a_u89 ?l_u89 ?c_u89 ?k_u89 DP.hb__law_world; (case a_u89 => k_is); (case l_u89 => k_is); (case c_u89 => k_is); (case k_u89 => k_is)))
    (case a__law_options => (refine' DP.at_mk KX G ?a_u90 ?l_u90 ?c_u90 ?k_u90 DP.hb__law_options; (case a_u90 => k_is); (case l_u90 => k_is); (case c_u90 => k_is); (case k_u90 => k_is)))
    (case a__law_drawn => (refine' DP.at_mk KX G ?a_u91 ?l_u91 ?c_u91 ?k_u91 DP.hb__law_drawn; (case a_u91 => k_is); (case l_u91 => k_is); (case c_u91 => k_is); (case k_u91 => k_is)))
    (case a_has_minute => (refine' DP.at_mk KX G ?a_u92 ?l_u92 ?c_u92 ?k_u92 DP.hb_has_minute; (case a_u92 => k_is); (case l_u92 => k_is); (case c_u92 => k_is); (case k_u92 => k_is)))
    (case a_lengthened => (refine' DP.at_mk KX G ?a_u93 ?l_u93 ?c_u93 ?k_u93 DP.hb_lengthened; (case a_u93 => k_is); (case l_u93 => k_is); (case c_u93 => k_is); (case k_u93 => k_is)))
    (case a_busy_part => (refine' DP.at_mk KX G ?a_u94 ?l_u94 ?c_u94 ?k_u94 DP.hb_busy_part; (case a_u94 => k_is); (case l_u94 => k_is); (case c_u94 => k_is); (case k_u94 => k_is)))
    (case a_is_spent => (refine' DP.at_mk KX G ?a_u95 ?l_u95 ?c_u95 ?k_u95 DP.hb_is_spent; (case a_u95 => k_is); (case l_u95 => k_is); (case c_u95 => k_is); (case k_u95 => k_is)))
    (case a_minutes_within => (refine' DP.at_mk KX G ?a_u96 ?l_u96 ?c_u96 ?k_u96 DP.hb_minutes_within; (case a_u96 => k_is); (case l_u96 => k_is); (case c_u96 => k_is); (case k_u96 => k_is)))
    (case a_light_minutes => (refine' DP.at_mk KX G ?a_u97 ?l_u97 ?c_u97 ?k_u97 DP.hb_light_minutes; (case a_u97 => k_is); (case l_u97 => k_is); (case c_u97 => k_is); (case k_u97 => k_is)))
    (case a_charged => (refine' DP.at_mk KX G ?a_u98 ?l_u98 ?c_u98 ?k_u98 DP.hb_charged; (case a_u98 => k_is); (case l_u98 => k_is); (case c_u98 => k_is); (case k_u98 => k_is)))
    (case a_right_side => (refine' DP.at_mk KX G ?a_u99 ?l_u99 ?c_u99 ?k_u99 DP.hb_right_side; (case a_u99 => k_is); (case l_u99 => k_is); (case c_u99 => k_is); (case k_u99 => k_is)))
    (case a_recording_part => (refine' DP.at_mk KX G ?a_u100 ?l_u100 ?c_u100 ?k_u100 DP.hb_recording_part; (case a_u100 => k_is); (case l_u100 => k_is); (case c_u100 => k_is); (case k_u100 => k_is)))
    (case a_pass_part => (refine' DP.at_mk KX G ?a_u101 ?l_u101 ?c_u101 ?k_u101 DP.hb_pass_part; (case a_u101 => k_is); (case l_u101 => k_is); (case c_u101 => k_is); (case k_u101 => k_is)))
    (case a_is_integer => (refine' DP.at_mk KX G ?a_u102 ?l_u102 ?c_u102 ?k_u102 DP.hb_is_integer; (case a_u102 => k_is); (case l_u102 => k_is); (case c_u102 => k_is); (case k_u102 => k_is)))
    (case a_has_row_form => (refine' DP.at_mk KX G ?a_u103 ?l_u103 ?c_u103 ?k_u103 DP.hb_has_row_form; (case a_u103 => k_is); (case l_u103 => k_is); (case c_u103 => k_is); (case k_u103 => k_is)))
    (case a_things_of => (refine' DP.at_mk KX G ?a_u104 ?l_u104 ?c_u104 ?k_u104 DP.hb_things_of; (case a_u104 => k_is); (case l_u104 => k_is); (case c_u104 => k_is); (case k_u104 => k_is)))
    (case a_check_row => (refine' DP.at_mk KX G ?a_u105 ?l_u105 ?c_u105 ?k_u105 DP.hb_check_row; (case a_u105 => k_is); (case l_u105 => k_is); (case c_u105 => k_is); (case k_u105 => k_is)))
    (case a_is_option => (refine' DP.at_mk KX G ?a_u106 ?l_u106 ?c_u106 ?k_u106 DP.hb_is_option; (case a_u106 => k_is); (case l_u106 => k_is); (case c_u106 => k_is); (case k_u106 => k_is)))
    (case a_options => (refine' DP.at_mk KX G ?a_u107 ?l_u107 ?c_u107 ?k_u107 DP.hb_options; (case a_u107 => k_is); (case l_u107 => k_is); (case c_u107 => k_is); (case k_u107 => k_is)))
    (case a_base_of => (refine' DP.at_mk KX G ?a_u108 ?l_u108 ?c_u108 ?k_u108 DP.hb_base_of; (case a_u108 => k_is); (case l_u108 => k_is); (case c_u108 => k_is); (case k_u108 => k_is)))
    (case a_recording_weight => (refine' DP.at_mk KX G ?a_u109 ?l_u109 ?c_u109 ?k_u109 DP.hb_recording_weight; (case a_u109 => k_is); (case l_u109 => k_is); (case c_u109 => k_is); (case k_u109 => k_is)))
    (case a_recording_choices => (refine' DP.at_mk KX G ?a_u110 ?l_u110 ?c_u110 ?k_u110 DP.hb_recording_choices; (case a_u110 => k_is); (case l_u110 => k_is); (case c_u110 => k_is); (case k_u110 => k_is)))
    (case a_pass_choices => (refine' DP.at_mk KX G ?a_u111 ?l_u111 ?c_u111 ?k_u111 DP.hb_pass_choices; (case a_u111 => k_is); (case l_u111 => k_is); (case c_u111 => k_is); (case k_u111 => k_is)))
    (case a_entries_of => (refine' DP.at_mk KX G ?a_u112 ?l_u112 ?c_u112 ?k_u112 DP.hb_entries_of; (case a_u112 => k_is); (case l_u112 => k_is); (case c_u112 => k_is); (case k_u112 => k_is)))
    (case a_Measure___init__ => (refine' DP.metD_mk ?a_u113 ?i_u113 ?l_u113 ?lT_u113 ?c_u113 ?k_u113 2 rfl DP.hb_Measure___init__; (case a_u113 => k_is); (case i_u113 => k_is); (case l_u113 => k_is); (case lT_u113 => k_is); (case c_u113 => k_is); (case k_u113 => k_is)))
    (case a_Measure_entry_worth => (refine' DP.met_mk ?a_u114 ?i_u114 ?l_u114 ?c_u114 ?k_u114 DP.hb_Measure_entry_worth; (case a_u114 => k_is); (case i_u114 => k_is); (case l_u114 => k_is); (case c_u114 => k_is); (case k_u114 => k_is)))
    (case a_Measure_part => (refine' DP.met_mk ?a_u115 ?i_u115 ?l_u115 ?c_u115 ?k_u115 DP.hb_Measure_part; (case a_u115 => k_is); (case i_u115 => k_is); (case l_u115 => k_is); (case c_u115 => k_is); (case k_u115 => k_is)))
    (case a_is_tuple_of => (refine' DP.at_mk KX G ?a_u116 ?l_u116 ?c_u116 ?k_u116 DP.hb_is_tuple_of; (case a_u116 => k_is); (case l_u116 => k_is); (case c_u116 => k_is); (case k_u116 => k_is)))
    (case a_check_prices => (refine' DP.at_mk KX G ?a_u117 ?l_u117 ?c_u117 ?k_u117 DP.hb_check_prices; (case a_u117 => k_is); (case l_u117 => k_is); (case c_u117 => k_is); (case k_u117 => k_is)))
    (case a_bound => (refine' DP.at_mk KX G ?a_u118 ?l_u118 ?c_u118 ?k_u118 DP.hb_bound; (case a_u118 => k_is); (case l_u118 => k_is); (case c_u118 => k_is); (case k_u118 => k_is)))
    (case a_Nets___init__ => (refine' DP.met_mk ?a_u119 ?i_u119 ?l_u119 ?c_u119 ?k_u119 DP.hb_Nets___init__; (case a_u119 => k_is); (case i_u119 => k_is); (case l_u119 => k_is); (case c_u119 => k_is); (case k_u119 => k_is)))
    (case a_Nets_bound => (refine' DP.met_mk ?a_u120 ?i_u120 ?l_u120 ?c_u120 ?k_u120 DP.hb_Nets_bound; (case a_u120 => k_is); (case i_u120 => k_is); (case l_u120 => k_is); (case c_u120 => k_is); (case k_u120 => k_is)))
    (case a_Nets_net => (refine' DP.met_mk ?a_u121 ?i_u121 ?l_u121 ?c_u121 ?k_u121 DP.hb_Nets_net; (case a_u121 => k_is); (case i_u121 => k_is); (case l_u121 => k_is); (case c_u121 => k_is); (case k_u121 => k_is)))
    (case a_Nets_choice_net => (refine' DP.met_mk ?a_u122 ?i_u122 ?l_u122 ?c_u122 ?k_u122 DP.hb_Nets_choice_net; (case a_u122 => k_is); (case i_u122 => k_is); (case l_u122 => k_is); (case c_u122 => k_is); (case k_u122 => k_is)))
    (case a__law_row => (refine' DP.at_mk KX G ?a_u123 ?l_u123 ?c_u123 ?k_u123 DP.hb__law_row; (case a_u123 => k_is); (case l_u123 => k_is); (case c_u123 => k_is); (case k_u123 => k_is)))
    (case a__law_recording_part => (refine' DP.at_mk KX G ?a_u124 ?l_u124 ?c_u124 ?k_u124 DP.hb__law_recording_part; (case a_u124 => k_is); (case l_u124 => k_is); (case c_u124 => k_is); (case k_u124 => k_is)))
    (case a__law_pass_part => (refine' DP.at_mk KX G ?a_u125 ?l_u125 ?c_u125 ?k_u125 DP.hb__law_pass_part; (case a_u125 => k_is); (case l_u125 => k_is); (case c_u125 => k_is); (case k_u125 => k_is)))
    (case a__law_right => (refine' DP.at_mk KX G ?a_u126 ?l_u126 ?c_u126 ?k_u126 DP.hb__law_right; (case a_u126 => k_is); (case l_u126 => k_is); (case c_u126 => k_is); (case k_u126 => k_is)))
    (case a__law_case => (refine' DP.at_mk KX G ?a_u127 ?l_u127 ?c_u127 ?k_u127 DP.hb__law_case; (case a_u127 => k_is); (case l_u127 => k_is); (case c_u127 => k_is); (case k_u127 => k_is)))
    (case a__law_prices => (refine' DP.at_mk KX G ?a_u128 ?l_u128 ?c_u128 ?k_u128 DP.hb__law_prices; (case a_u128 => k_is); (case l_u128 => k_is); (case c_u128 => k_is); (case k_u128 => k_is)))
    (case a__law_recording_weight => (refine' DP.at_mk KX G ?a_u129 ?l_u129 ?c_u129 ?k_u129 DP.hb__law_recording_weight; (case a_u129 => k_is); (case l_u129 => k_is); (case c_u129 => k_is); (case k_u129 => k_is)))
    (case a__law_gain => (refine' DP.at_mk KX G ?a_u130 ?l_u130 ?c_u130 ?k_u130 DP.hb__law_gain; (case a_u130 => k_is); (case l_u130 => k_is); (case c_u130 => k_is); (case k_u130 => k_is)))
    (case a__law_bound => (refine' DP.at_mk KX G ?a_u131 ?l_u131 ?c_u131 ?k_u131 DP.hb__law_bound; (case a_u131 => k_is); (case l_u131 => k_is); (case c_u131 => k_is); (case k_u131 => k_is)))
    (case a_law => (refine' DP.at_mk KX G ?a_u132 ?l_u132 ?c_u132 ?k_u132 DP.hb_law; (case a_u132 => k_is); (case l_u132 => k_is); (case c_u132 => k_is); (case k_u132 => k_is)))
