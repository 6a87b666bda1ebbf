import PyProof.Rows.All
import Wide.All
import OpenK.AllK
import Wide.FinOn
import HandS.ForMost
import HandS.IsInst
import HandS.Sort
import HandS.Conv
import HandS.ClsMeth
import HandS.CallLocal
import HandS.Codes
import HandS.NoneIn
import HandS.Walk
import HandS.Defaults
import HandS.Strs
import HandS.SlotsOwn
import HandS.TupAny
import HandS.TupMul
import HandS.Deep
import HandS.FStr
import HandS.Zip
import HandS.TupLe
import HandS.Star
import HandS.TupSets
import KE.DataCmp
import HandS.Flow
import HandS.WordsExc
import HandS.TryOnly
import HandS.ExcIs
import HandS.ExcField
import HandS.ExcInit
import HandS.ExcSuper
import HandS.HotCalls
import KE.KExcIs
import KE.KExcSuper
import KE.RegKSuper
import KE.GoesEnumKw
import PySem.Challenge.RW_downpass_k03_faults_of_worlds
set_option Elab.async false
set_option linter.all false
set_option maxRecDepth 100000
set_option maxHeartbeats 4000000
namespace DP
open PySem PySem.Spec PyProof.Rows L2
def isPl (p : Addr) (h : Heap) : Prop := ∃ (n : Int) (t : Tok) (k : Nat), h.get? p = some { cls := .type "list", data := .seq #[.int n t] k }
def plO (p : Addr) : HO := .ext (isPl p)
section
variable {P : Program} {w : World} {K : PySem.W.Frag} {mg : Str → Option Value} {base : Heap} {k : Nat} {f : Addr} {fd : FuncData} {ps : List Str} {sp sp' : Sp}
/-- the same objects by another heap that differs at p alone, where neither says own or tuple -/
theorem stay_at {H H' : Hp} {h : Heap} {p a : Addr} {o : HO} (x : ObjOk P w H h a o) (e : ∀ b, b ≠ p → H b = H' b) (n1 : ∀ y, H p ≠ some (.own y)) (n2 : ∀ xs, H p ≠ some (.tup xs)) : ObjOk P w H' h a o :=
  x.stay (fun _ _ _ q => q) (fun b q => by
    have hb : b ≠ p := fun z => n1 _ (z ▸ q)
    rw [← e b hb]; exact q) (fun b xs q => by
    have hb : b ≠ p := fun z => n2 _ (z ▸ q)
    rw [← e b hb]; exact q)
theorem pl_open {H : Hp} {h : Heap} {p : Addr} (ok : HOk P w H h) (e : H p = some (plO p)) : ∃ n : Int, HOk P w (upd H p (.lst [.int n])) h := by
  obtain ⟨⟨n, t, k, g⟩, _⟩ := (show ObjOk P w H h p (.ext (isPl p)) from ok p _ e)
  refine ⟨n, fun a o q => ?_⟩
  by_cases ha : a = p
  · subst ha
    rw [upd_same] at q
    cases q
    exact ⟨(by show 1 ≤ sizeLine; decide), [.int n t], k, .cons ⟨t, rfl⟩ .nil, g⟩
  · rw [upd_ne ha] at q
    exact stay_at (p := p) (ok a o q) (fun b hb => (upd_ne hb).symm) (fun y z => by rw [e] at z; cases z) (fun y z => by rw [e] at z; cases z)
theorem pl_close {H : Hp} {h : Heap} {p : Addr} {m : Int} (ok : HOk P w H h) (e : H p = some (.lst [.int m])) : HOk P w (upd H p (plO p)) h := by
  obtain ⟨_, its, k, r, g⟩ := (show ObjOk P w H h p (.lst [.int m]) from ok p _ e)
  refine fun a o q => ?_
  by_cases ha : a = p
  · subst ha
    rw [upd_same] at q
    cases q
    cases r with
    | cons r1 r2 =>
      cases r2
      obtain ⟨t, rfl⟩ := r1
      refine ⟨⟨m, t, k, g⟩, ⟨_, g⟩, fun h1 h2 z y => ?_⟩
      obtain ⟨n', t', k', g'⟩ := z
      exact ⟨n', t', k', y _ g'⟩
  · rw [upd_ne ha] at q
    exact stay_at (p := p) (ok a o q) (fun b hb => (upd_ne hb).symm) (fun y z => by rw [e] at z; cases z) (fun y z => by rw [e] at z; cases z)
/-- a def that turns the counter, told as one that changes nothing -/
theorem hide_in (F : FnOk P w K mg base CX0 k f fd ps sp) (hl : ∀ vs H Q E, sp' vs H Q E → vs.length = ps.length)
    (hs : ∀ vs H Q E, sp' vs H Q E → ∃ p, H p = some (plO p) ∧ ∀ n : Int, sp vs (upd H p (.lst [.int n])) (fun v H' => (∃ m : Int, H' = upd H p (.lst [.int m])) ∧ Q v H) E) : FnOk P w K mg base CX0 k f fd ps sp' := by
  refine ⟨hl, fun A outer s H args us vs Q E hr he hb hv h => ?_⟩
  obtain ⟨p, ep, h1⟩ := hs vs H Q E h
  obtain ⟨n, ok⟩ := pl_open he.hok ep
  have h2 := h1 n
  have hne : ∀ b, H b = none → b ≠ p := fun b z y => by rw [y, ep] at z; cases z
  refine codeAny_mono (F.run A outer s _ args us vs _ E hr ⟨he.frames, he.mod, fun b o z => ⟨(he.bs b o z).1, by rw [upd_ne (hne b (he.bs b o z).2)]; exact (he.bs b o z).2⟩, he.bsz, he.funs, fun b z => by rw [upd_ne (hne b (he.frf b z))]; exact he.frf b z, ok, he.bare⟩ hb hv h2) fun r s' hq => ?_
  cases r with
  | error e => exact hq.elim
  | ok fl =>
    cases fl with
    | next => exact False.elim hq
    | brk => exact False.elim hq
    | cont => exact False.elim hq
    | ret u =>
      obtain ⟨v, H', os, bare, un, hok, rv, ⟨m, rfl⟩, q⟩ := hq
      refine ⟨v, H, os, bare, ⟨fun b o z n hb hx => un.keep b o z (by rw [upd_ne (hne b n)]; exact n) hb hx, fun b o z n hb hx => un.slot b o z (by rw [upd_ne (hne b n)]; exact n) hb hx, fun _ _ _ n _ => n, un.there, fun _ _ z => z, fun _ _ _ z => z, fun _ ps z => ⟨#[], by rw [z]; simp⟩⟩, ?_, rv, q⟩
      have c := pl_close hok upd_same
      rw [upd_upd] at c
      intro a o z
      have c1 := c a
      have eq : upd H p (plO p) = H := by
        funext b
        by_cases hb : b = p
        · subst hb; rw [upd_same, ep]
        · rw [upd_ne hb]
      rw [eq] at c
      exact c a o z
/-- a def that hands back a heap with such a list: from then on it is a counter -/
theorem hide_out (F : FnOk P w K mg base CX0 k f fd ps sp) (hl : ∀ vs H Q E, sp' vs H Q E → vs.length = ps.length)
    (hs : ∀ vs H Q E, sp' vs H Q E → sp vs H (fun v H' => ∃ (p : Addr) (m : Int), H p = none ∧ H' p = some (.lst [.int m]) ∧ Q v (upd H' p (plO p))) E) : FnOk P w K mg base CX0 k f fd ps sp' := by
  refine ⟨hl, fun A outer s H args us vs Q E hr he hb hv h => ?_⟩
  refine codeAny_mono (F.run A outer s _ args us vs _ E hr he hb hv (hs vs H Q E h)) fun r s' hq => ?_
  cases r with
  | error e => exact hq.elim
  | ok fl =>
    cases fl with
    | next => exact False.elim hq
    | brk => exact False.elim hq
    | cont => exact False.elim hq
    | ret u =>
      obtain ⟨v, H', os, bare, un, hok, rv, p, m, n0, ep, q⟩ := hq
      refine ⟨v, _, os, bare, ⟨un.keep, un.slot, fun b o z n hx => ?_, un.there, fun b xs z => ?_, fun b o u z => ?_, fun b ps z => ?_⟩, pl_close hok ep, rv, q⟩
      · have e1 := un.free b o z n hx
        rw [upd_ne (fun y => by rw [y, ep] at e1; cases e1)]
        exact e1
      · rw [upd_ne (ne_of_none z n0)]; exact un.tups b xs z
      · rw [upd_ne (ne_of_none z n0)]; exact un.frzs b o u z
      · rw [upd_ne (ne_of_none z n0)]; exact un.tbls b ps z
end
end DP
namespace DP
open PySem PySem.Spec PyProof.Rows L2
/-- the built-in names that the text leaves alone -/
structure Bt (mg : Str → Option Value) : Prop where
  len : mg "len" = none
  range : mg "range" = none
  int : mg "int" = none
  abs : mg "abs" = none
  isinstance : mg "isinstance" = none
  bool : mg "bool" = none
  str : mg "str" = none
  tuple : mg "tuple" = none
  list : mg "list" = none
  min : mg "min" = none
  all : mg "all" = none
  enumerate : mg "enumerate" = none
structure DefOk (P : Program) (w : World) (K : PySem.W.Frag) (mg : Str → Option Value) (base : Heap) (CX : CXT) (k : Nat) (x : Str) (ps : List Str) (sp : Sp) : Prop where
  ex : ∃ f fd, FnOk P w K mg base CX k f fd ps sp ∧ mg x = some (.ref f) ∧ PySem.W.keepIn K (.ref f) = true ∧ Binds K fd ps [] ∧ ∃ oc od osl, K.lookup f = some ⟨oc, od, .func fd, osl⟩
/-- where a def stands -/
structure At (K : PySem.W.Frag) (mg : Str → Option Value) (x : Str) (st : Stmt) (ps : List Str) : Prop where
  ex : ∃ f fd, Fun K x x st f fd ∧ mg x = some (.ref f) ∧ Binds K fd ps []
theorem pe_f {X : Cx} {CX : CXT} {k : Nat} {x : Str} {ps : List Str} {sp : Sp} {E : XK} {e : Expr} {es : List Expr} {t : TA} {p pos : Pos} (D : DefOk X.prog X.w X.K X.mg X.base CX k x ps sp) (hr : Room k X.A) (hx : Passes CX X E) (ha : PA X (e :: es) t)
    (hg : Gl X x := by rfl) (hdb : (x == ("__debug__" : Str)) = false := by decide) (he : starEach (e :: es) X.env = (false, eval e X.env) :: starEach es X.env := by rfl) (hpl : (backTo pos (starEach es X.env)).any (·.1) = false := by rfl) :
    PE X (.Call (.Name x p) (e :: es) [] pos) (tCall sp [] E t) := by
  obtain ⟨f, fd, G, m, kp, b, _⟩ := D.ex
  exact pe_call G hr hg m kp b .nil hx ha hdb he hpl
section
variable {P : Program} {w : World} {K : PySem.W.Frag} {mg : Str → Option Value} {base : Heap} {x : Str} {st : Stmt} {ps N : List Str} {k : Nat} {sp sp' : Sp}
theorem At.ok (F : At K mg x st ps) (S : FnScope N ps (defScope st)) (len : ∀ vs H Q E, sp vs H Q E → vs.length = ps.length)
    (hbody : ∀ (f : Addr) (cdv : Value) (A : Around) (outer : List Env) (s : Shared) (H : Hp) (vs : List V) (Q : VK) (E : XK), Room k (A.deeper (envOfC x (defScope st) s.heap.objs.size f cdv)) → sp vs H Q E →
      ∃ t, PSs (cxOf CX0 P w K mg base N x (defScope st) f cdv A outer s H E).nox (defBody st) t ∧ t { nx := fun _ H' => Q .non H', rt := Q } (start N vs) H) : DefOk P w K mg base CX0 (k + 1) x ps sp := by
  obtain ⟨f, fd, G, m, b⟩ := F.ex
  obtain ⟨oc, od, _, _, _, _, _, _, osl, _, lk, _⟩ := G.ex
  exact ⟨f, fd, G.ok S len (fun cdv A outer s H vs Q E hr h => hbody f cdv A outer s H vs Q E hr h), m, G.kp, b, oc, od, osl, lk⟩
/-- the law's def, for the end -/
theorem At.end_ {l : PySem.W.OpenLaw} {fa : Addr} (F : At K mg x st ["script"]) (hfa : mg x = some (.ref fa)) (h : ∀ base : Heap, DefOk l.prog w K mg base CX0 k x ["script"] sp)
    (hb : ∀ (kV doc pm : Value) (an : Option Addr) (cdv ct v : Value), bindArgs (PySem.W.fnOf x x (defArgs st) (defBody st) (defScope st) .none kV doc pm an cdv ct) ⟨[v], []⟩ = pure [(("script" : Str), v)]) :
    ∃ fd : FuncData, (∀ (s : Shared) (v : Value), BindsTo s fd ⟨[v], []⟩ [("script", v)]) ∧ ∀ base : Heap, K.In base → base.Ns mainGlobals mg → FnOk l.prog w K mg base CX0 k fa fd ["script"] sp := by
  obtain ⟨f, fd, G, m, b⟩ := F.ex
  rw [hfa] at m
  cases m
  refine ⟨fd, fun s v => ?_, fun base _ _ => ?_⟩
  · obtain ⟨oc, od, kV, doc, pm, an, cdv, ct, osl, rfl, lk, _⟩ := G.ex
    exact .of_eq (hb kV doc pm an cdv ct v)
  obtain ⟨f', fd', G', m', _, _, oc', od', osl', lk'⟩ := (h base).ex
  rw [hfa] at m'
  cases m'
  obtain ⟨oc, od, _, _, _, _, _, _, osl, _, lk, _⟩ := G.ex
  rw [lk] at lk'
  cases lk'
  exact G'
theorem DefOk.hide_in (D : DefOk P w K mg base CX0 k x ps sp) (hl : ∀ vs H Q E, sp' vs H Q E → vs.length = ps.length)
    (hs : ∀ vs H Q E, sp' vs H Q E → ∃ p, H p = some (plO p) ∧ ∀ n : Int, sp vs (upd H p (.lst [.int n])) (fun v H' => (∃ m : Int, H' = upd H p (.lst [.int m])) ∧ Q v H) E) : DefOk P w K mg base CX0 k x ps sp' := by
  obtain ⟨f, fd, G, m, kp, b, lk⟩ := D.ex
  exact ⟨f, fd, DP.hide_in G hl hs, m, kp, b, lk⟩
theorem DefOk.hide_out (D : DefOk P w K mg base CX0 k x ps sp) (hl : ∀ vs H Q E, sp' vs H Q E → vs.length = ps.length)
    (hs : ∀ vs H Q E, sp' vs H Q E → sp vs H (fun v H' => ∃ (p : Addr) (m : Int), H p = none ∧ H' p = some (.lst [.int m]) ∧ Q v (upd H' p (plO p))) E) : DefOk P w K mg base CX0 k x ps sp' := by
  obtain ⟨f, fd, G, m, kp, b, lk⟩ := D.ex
  exact ⟨f, fd, DP.hide_out G hl hs, m, kp, b, lk⟩
theorem DefOk.imp (D : DefOk P w K mg base CX0 k x ps sp) (h : ∀ vs H Q E, sp' vs H Q E → sp vs H Q E) : DefOk P w K mg base CX0 k x ps sp' := by
  obtain ⟨f, fd, G, m, kp, b, lk⟩ := D.ex
  exact ⟨f, fd, G.imp h, m, kp, b, lk⟩
end
theorem at_mk {h : Heap} {K : PySem.W.Frag} {mg : Str → Option Value} (X : K.In h) (G : h.Ns mainGlobals mg) {x : Str} {st : Stmt} {ps : List Str} {f : Addr} {oc : Value} {od an : Option Addr} {osl : Array (Option Value)} {kV doc pm cdv ct : Value}
    (a : PySem.W.nsIn K mainGlobals x = some (some (.ref f))) (l : K.lookup f = some ⟨oc, od, .func (PySem.W.fnOf x x (defArgs st) (defBody st) (defScope st) .none kV doc pm an cdv ct), osl⟩)
    (c : PySem.W.codeIn K cdv x = true) (k : PySem.W.keepIn K (.ref f) = true)
    (hb : ∀ (kV doc pm : Value) (an : Option Addr) (cdv ct : Value) (us : List Value), us.length = ps.length → bindArgs (PySem.W.fnOf x x (defArgs st) (defBody st) (defScope st) .none kV doc pm an cdv ct) ⟨us, []⟩ = pure (ps.zip us)) : At K mg x st ps := by
  have F := fun_mk (st := st) l c k
  exact ⟨f, _, F, PySem.W.mg_of X G a, F.binds hb⟩
theorem same_new {H : Hp} {p : Addr} (h : H p = none) (o : HO) : Same H (upd H p o) := fun b u q => by rw [upd_ne (ne_of_none q h)]; exact q
theorem same_at {H H' : Hp} {p : Addr} (h : H p = none) (s : Same H H') (o : HO) : Same H (upd H' p o) := fun b u q => by rw [upd_ne (ne_of_none q h)]; exact s _ _ q
theorem Same.tup {K : PySem.W.Frag} {H H' : Hp} {a : Addr} {xs : List V} (e : Same H H') (h : SqT K H a xs) : SqT K H' a xs := by
  rcases h with (h | ⟨o, h⟩) | h
  · exact .inl (.inl (e _ _ h))
  · exact .inl (.inr ⟨o, e _ _ h⟩)
  · exact .inr h
theorem iteT' {c : Bool} {A B : Prop} (e : c = true) (h : A) : if c = true then A else B := by
  rw [if_pos e]
  exact h
theorem iteF' {c : Bool} {A B : Prop} (e : c = false) (h : B) : if c = true then A else B := by
  rw [e]
  exact iteF h
theorem small {n : Nat} (h : n ≤ 1000) : n ≤ sizeLine := Nat.le_of_lt (small1000 h)
end DP
namespace DP
open PySem PySem.Spec PyProof.Rows L2
/-- a span of two ints -/
def SpanV (K : PySem.W.Frag) (H : Hp) (x : V) (q : Int × Int) : Prop := ∃ t, x = .ref t ∧ SqT K H t [.int q.1, .int q.2]
abbrev Spans (K : PySem.W.Frag) (H : Hp) (xs : List V) (qs : List (Int × Int)) : Prop := Paired (SpanV K H) xs qs
theorem paired_snoc {α β : Type} {F : α → β → Prop} : ∀ {xs : List α} {ys : List β} {x : α} {y : β}, Paired F xs ys → F x y → Paired F (xs ++ [x]) (ys ++ [y])
  | _, _, _, _, .nil, h => .cons h .nil
  | _, _, _, _, .cons a t, h => .cons a (paired_snoc t h)
theorem paired_at {α β : Type} {F : α → β → Prop} : ∀ {xs : List α} {ys : List β} {i : Nat} {x : α}, Paired F xs ys → xs[i]? = some x → ∃ y, ys[i]? = some y ∧ F x y
  | _, _, _, _, .nil, h => by simp at h
  | _, _, 0, _, .cons a _, h => ⟨_, rfl, by rw [← Option.some.inj h]; exact a⟩
  | _, _, i + 1, _, .cons _ t, h => by
    obtain ⟨y, h1, h2⟩ := paired_at (i := i) t h
    exact ⟨y, h1, h2⟩
theorem paired_len {α β : Type} {F : α → β → Prop} {xs : List α} {ys : List β} (h : Paired F xs ys) : xs.length = ys.length := Paired.length h
/-- a tuple stands where a list is changed -/
theorem sqT_upd {K : PySem.W.Frag} {H : Hp} {t L : Addr} {xs ys : List V} {o : HO} (h : SqT K H t xs) (e : H L = some (.lst ys)) : SqT K (upd H L o) t xs := by
  rcases h with (h | ⟨u, h⟩) | h
  · exact .inl (.inl (by rw [upd_ne (ne_of h e (fun z => nomatch z))]; exact h))
  · exact .inl (.inr ⟨u, by rw [upd_ne (ne_of h e (fun z => nomatch z))]; exact h⟩)
  · exact .inr h
theorem Spans.upd {K : PySem.W.Frag} {H : Hp} {L : Addr} {xs ys : List V} {qs : List (Int × Int)} {o : HO} (h : Spans K H xs qs) (e : H L = some (.lst ys)) : Spans K (L2.upd H L o) xs qs :=
  Paired.mapP h fun _ _ ⟨t, h1, h2⟩ => ⟨t, h1, sqT_upd h2 e⟩
theorem Spans.same {K : PySem.W.Frag} {H H' : Hp} {xs : List V} {qs : List (Int × Int)} (h : Spans K H xs qs) (s : Same H H') : Spans K H' xs qs :=
  Paired.mapP h fun _ _ ⟨t, h1, h2⟩ => ⟨t, h1, Same.tup s h2⟩
end DP
namespace DP
open PySem PySem.Spec PyProof.Rows L2
abbrev tl (x : Str) : List Nat := TL.tl x
def num (n : Int) : Str := Str.ofString (toString n)
/-- a word of a line -/
def WdOk (w : Str) : Prop := tl w ≠ [] ∧ 32 ∉ tl w ∧ 10 ∉ tl w ∧ (tl w).length ≤ 16
def isL (c : Nat) : Bool := (decide (65 ≤ c) && decide (c ≤ 90)) || (decide (97 ≤ c) && decide (c ≤ 122))
def isD (c : Nat) : Bool := decide (48 ≤ c) && decide (c ≤ 57)
def NameOk (w : Str) : Prop := ∃ c r, tl w = c :: r ∧ isL c = true ∧ (∀ x ∈ r, (isL x || isD x) = true) ∧ r.length ≤ 14
theorem isL_lt {c : Nat} (h : isL c = true) : 65 ≤ c ∧ c ≤ 122 := by
  unfold isL at h
  simp only [Bool.or_eq_true, Bool.and_eq_true, decide_eq_true_eq] at h
  omega
theorem isD_lt {c : Nat} (h : isD c = true) : 48 ≤ c ∧ c ≤ 57 := by
  unfold isD at h
  simp only [Bool.and_eq_true, decide_eq_true_eq] at h
  omega
theorem sign_lt {c : Nat} (h : (isL c || isD c) = true) : 48 ≤ c ∧ c ≤ 122 := by
  rcases Bool.or_eq_true _ _ ▸ h with h | h
  · have := isL_lt h; omega
  · have := isD_lt h; omega
theorem NameOk.signs {w : Str} (h : NameOk w) : ∀ c ∈ tl w, (isL c || isD c) = true := by
  obtain ⟨c, r, e, hc, hr, _⟩ := h
  intro x hx
  rw [e] at hx
  rcases List.mem_cons.mp hx with rfl | hx
  · rw [hc]; rfl
  · exact hr x hx
theorem NameOk.wd {w : Str} (h : NameOk w) : WdOk w := by
  have hs := h.signs
  obtain ⟨c, r, e, hc, hr, hl⟩ := h
  refine ⟨by rw [e]; exact List.cons_ne_nil _ _, fun z => ?_, fun z => ?_, by rw [e, List.length_cons]; omega⟩
  · have := sign_lt (hs _ z); omega
  · have := sign_lt (hs _ z); omega
theorem num_nat {n : Int} (h : 0 ≤ n) : tl (num n) = TL.numL n.toNat := by
  have e : n = ((n.toNat : Nat) : Int) := by omega
  unfold num
  rw [e]
  exact TL.tl_num _
theorem numL_len7 {n : Nat} (h : n < 10000000) : (TL.numL n).length ≤ 7 := TL.numL_len (k := 7) (by decide) (by omega)
theorem num_wd {n : Int} (h0 : 0 ≤ n) (h1 : n < 10000000) : WdOk (num n) := by
  refine ⟨?_, ?_, ?_, ?_⟩
  · rw [num_nat h0]; exact TL.numL_ne _
  · rw [num_nat h0]; exact TL.numL_free (by omega)
  · rw [num_nat h0]; exact TL.numL_free (by omega)
  · rw [num_nat h0]; exact Nat.le_trans (numL_len7 (by omega)) (by decide)
/-- 0, or no 0 ahead -/
theorem numL_head {n : Nat} : ∀ r, TL.numL n = 48 :: r → n = 0 := by
  induction n using Nat.strongRecOn with
  | _ n ih =>
    intro r h
    by_cases c : n < 10
    · rw [TL.numL_lt c] at h
      have := (List.cons.inj h).1
      omega
    · rw [TL.numL_step (by omega)] at h
      cases q : TL.numL (n / 10) with
      | nil => exact absurd q (TL.numL_ne _)
      | cons a b =>
        rw [q] at h
        have e := (List.cons.inj h).1
        have := ih (n / 10) (by omega) b (by rw [q, e])
        omega
def sp : Str := Str.ofString " "
def nl : Str := Str.ofString "\n"
theorem tl_sp : tl sp = [32] := by decide +kernel
theorem tl_nl : tl nl = [10] := by decide +kernel
def row (ws : List Str) : Str := Str.join sp ws
theorem joinL_free {c : Nat} {S : List Nat} (hS : c ∉ S) : ∀ ps : List (List Nat), (∀ p ∈ ps, c ∉ p) → c ∉ TL.joinL S ps
  | [], _ => List.not_mem_nil
  | [p], h => h p List.mem_cons_self
  | p :: q :: r, h => by
    show c ∉ p ++ (S ++ TL.joinL S (q :: r))
    have ih := joinL_free hS (q :: r) fun x hx => h x (List.mem_cons_of_mem _ hx)
    intro z
    rcases List.mem_append.mp z with z | z
    · exact h p List.mem_cons_self z
    · rcases List.mem_append.mp z with z | z
      · exact hS z
      · exact ih z
theorem joinL_len {m : Nat} {S : List Nat} : ∀ ps : List (List Nat), (∀ p ∈ ps, p.length ≤ m) → (TL.joinL S ps).length ≤ ps.length * (m + S.length)
  | [], _ => Nat.zero_le _
  | [p], h => by
    have := h p List.mem_cons_self
    show p.length ≤ 1 * (m + S.length)
    omega
  | p :: q :: r, h => by
    have ih := joinL_len (S := S) (q :: r) fun x hx => h x (List.mem_cons_of_mem _ hx)
    have h1 := h p List.mem_cons_self
    show (p ++ (S ++ TL.joinL S (q :: r))).length ≤ ((q :: r).length + 1) * (m + S.length)
    rw [List.length_append, List.length_append, Nat.add_mul]
    omega
/-- the text of rows, each with its newline -/
def glue (rows : List Str) : Str := Str.join nl (rows ++ [Str.empty])
theorem glue_split {rows : List Str} (h : ∀ r ∈ rows, 10 ∉ tl r) : Txt.split (glue rows) nl = rows ++ [Str.empty] := by
  have e := TL.split_join (y := nl) (s := 10) (S := []) tl_nl (by decide +kernel) (parts := rows ++ [Str.empty]) (by simp) (fun p hp => by
    rcases List.mem_append.mp hp with hp | hp
    · exact h p hp
    · rw [List.mem_singleton.mp hp]
      exact List.not_mem_nil)
  rw [TL.join_eq] at e
  exact e
theorem glue_tl : ∀ rows : List Str, tl (glue rows) = (rows.map fun r => tl r ++ [10]).flatten
  | [] => rfl
  | [r] => by
    show tl (r ++ nl ++ Str.empty) = tl r ++ [10] ++ []
    rw [show tl (r ++ nl ++ Str.empty) = tl (r ++ nl) ++ tl Str.empty from TL.tl_append _ _, show tl (r ++ nl) = tl r ++ tl nl from TL.tl_append _ _, tl_nl]
    rfl
  | r :: q :: z => by
    have ih := glue_tl (q :: z)
    show tl (r ++ nl ++ Str.join nl ((q :: z) ++ [Str.empty])) = tl r ++ [10] ++ ((q :: z).map fun r => tl r ++ [10]).flatten
    rw [show tl (r ++ nl ++ Str.join nl ((q :: z) ++ [Str.empty])) = tl (r ++ nl) ++ tl (Str.join nl ((q :: z) ++ [Str.empty])) from TL.tl_append _ _, show tl (r ++ nl) = tl r ++ tl nl from TL.tl_append _ _, tl_nl, ← ih]
    rfl
/-- the law's own making of it: no separator, each row with its newline -/
theorem join_nl (rows : List Str) : Txt.join Str.empty (rows.map fun r => r ++ nl) = glue rows := by
  refine TL.ext_tl ?_
  show tl _ = tl _
  rw [glue_tl, TL.join_eq]
  rw [show tl (Str.join Str.empty (rows.map fun r => r ++ nl)) = TL.joinL (tl Str.empty) ((rows.map fun r => r ++ nl).map tl) from TL.tl_join _ _]
  rw [List.map_map]
  have e : (tl ∘ fun r : Str => r ++ nl) = fun r => tl r ++ [10] := by
    funext r
    show tl (r ++ nl) = _
    rw [show tl (r ++ nl) = tl r ++ tl nl from TL.tl_append _ _, tl_nl]
  rw [e]
  generalize (rows.map fun r => tl r ++ [10]) = ls
  have flat : ∀ ls : List (List Nat), TL.joinL (tl Str.empty) ls = ls.flatten := by
    intro ls
    induction ls with
    | nil => rfl
    | cons a r ih =>
      cases r with
      | nil =>
        show a = a ++ []
        rw [List.append_nil]
      | cons b t =>
        show a ++ ([] ++ TL.joinL (tl Str.empty) (b :: t)) = a ++ (b :: t).flatten
        rw [List.nil_append, ih]
  exact flat ls
theorem glue_len {rows : List Str} {m : Nat} (h : ∀ r ∈ rows, r.length ≤ m) : (glue rows).length ≤ (rows.length + 1) * (m + 1) := by
  rw [TL.len_tl]
  unfold glue
  rw [show TL.tl (Str.join nl (rows ++ [Str.empty])) = TL.joinL (tl nl) ((rows ++ [Str.empty]).map tl) from TL.tl_join _ _]
  have := joinL_len (m := m) (S := tl nl) ((rows ++ [Str.empty]).map tl) fun p hp => by
    obtain ⟨w, hw, rfl⟩ := List.mem_map.mp hp
    rcases List.mem_append.mp hw with hw | hw
    · have := h w hw
      rw [TL.len_tl] at this
      exact this
    · rw [List.mem_singleton.mp hw]
      exact Nat.zero_le _
  rw [List.length_map, List.length_append, tl_nl] at this
  rw [tl_nl]
  exact this
structure SatD where
  name : Str
  store : Int
  battery : Int
  level : Int
  reserve : Int
  charge : Int
  settle : Int
  light : List (Int × Int)
structure StaD where
  name : Str
  antennas : Int
  turn : Int
structure RecD where
  name : Str
  sat : Nat
  earliest : Int
  latest : Int
  length : Int
  size : Int
  energy : Int
  worth : Int
  rank : Int
  deadline : Int
structure PasD where
  name : Str
  sat : Nat
  sta : Nat
  first : Int
  fin : Int
  room : Int
  energy : Int
  fee : Int
structure WorldD where
  horizon : Int
  sats : List SatD
  stas : List StaD
  recs : List RecD
  pass : List PasD
def lightW : List (Int × Int) → List Str
  | [] => []
  | q :: r => num q.1 :: num q.2 :: lightW r
def wHor (h : Int) : List Str := [Str.ofString "horizon", num h]
def wSat (s : SatD) : List Str := [Str.ofString "satellite", s.name, Str.ofString "store", num s.store, Str.ofString "battery", num s.battery, Str.ofString "level", num s.level,
  Str.ofString "reserve", num s.reserve, Str.ofString "charge", num s.charge, Str.ofString "settle", num s.settle, Str.ofString "light"] ++ lightW s.light
def wSta (s : StaD) : List Str := [Str.ofString "station", s.name, Str.ofString "antennas", num s.antennas, Str.ofString "turn", num s.turn]
def satN (W : WorldD) (i : Nat) : Str := ((W.sats.map (·.name))[i]?).getD Str.empty
def staN (W : WorldD) (i : Nat) : Str := ((W.stas.map (·.name))[i]?).getD Str.empty
def wRec (W : WorldD) (r : RecD) : List Str := [Str.ofString "recording", r.name, Str.ofString "by", satN W r.sat, Str.ofString "from", num r.earliest, Str.ofString "to", num r.latest,
  Str.ofString "length", num r.length, Str.ofString "size", num r.size, Str.ofString "energy", num r.energy, Str.ofString "worth", num r.worth, Str.ofString "rank", num r.rank, Str.ofString "until", num r.deadline]
def wPas (W : WorldD) (p : PasD) : List Str := [Str.ofString "pass", p.name, Str.ofString "by", satN W p.sat, Str.ofString "over", staN W p.sta, Str.ofString "from", num p.first, Str.ofString "to", num p.fin,
  Str.ofString "room", num p.room, Str.ofString "energy", num p.energy, Str.ofString "fee", num p.fee]
def linesW (W : WorldD) : List (List Str) := wHor W.horizon :: (W.sats.map wSat ++ W.stas.map wSta ++ W.recs.map (wRec W) ++ W.pass.map (wPas W))
def textW (W : WorldD) : Str := glue ((linesW W).map row)
def LightOk : Int → Int → List (Int × Int) → Prop
  | _, _, [] => True
  | least, h, q :: r => least ≤ q.1 ∧ q.1 + 1 ≤ q.2 ∧ q.2 ≤ h ∧ LightOk q.2 h r
structure SatOk (h : Int) (s : SatD) : Prop where
  name : NameOk s.name
  store : 0 ≤ s.store ∧ s.store ≤ 1000000
  battery : 0 ≤ s.battery ∧ s.battery ≤ 1000000
  level : 0 ≤ s.level ∧ s.level ≤ s.battery
  reserve : 0 ≤ s.reserve ∧ s.reserve ≤ s.level
  charge : 0 ≤ s.charge ∧ s.charge ≤ 1000
  settle : 0 ≤ s.settle ∧ s.settle ≤ 60
  light : LightOk 0 h s.light
structure StaOk (s : StaD) : Prop where
  name : NameOk s.name
  antennas : 1 ≤ s.antennas ∧ s.antennas ≤ 3
  turn : 0 ≤ s.turn ∧ s.turn ≤ 60
structure RecOk (W : WorldD) (r : RecD) : Prop where
  name : NameOk r.name
  sat : r.sat < W.sats.length
  earliest : 0 ≤ r.earliest ∧ r.earliest ≤ W.horizon - 1
  latest : r.earliest ≤ r.latest ∧ r.latest ≤ r.earliest + 20 ∧ r.latest ≤ W.horizon - 1
  length : 1 ≤ r.length ∧ r.length ≤ W.horizon - r.latest
  size : 0 ≤ r.size ∧ r.size ≤ 1000000
  energy : 0 ≤ r.energy ∧ r.energy ≤ 1000000
  worth : 1 ≤ r.worth ∧ r.worth ≤ 1000
  rank : 1 ≤ r.rank ∧ r.rank ≤ 3
  deadline : 0 ≤ r.deadline ∧ r.deadline ≤ W.horizon
structure PasOk (W : WorldD) (p : PasD) : Prop where
  name : NameOk p.name
  sat : p.sat < W.sats.length
  sta : p.sta < W.stas.length
  first : 0 ≤ p.first ∧ p.first ≤ W.horizon - 1
  fin : p.first + 1 ≤ p.fin ∧ p.fin ≤ W.horizon
  room : 0 ≤ p.room ∧ p.room ≤ 1000000
  energy : 0 ≤ p.energy ∧ p.energy ≤ 1000000
  fee : 0 ≤ p.fee ∧ p.fee ≤ 1000
structure WorldOk (W : WorldD) : Prop where
  horizon : 1 ≤ W.horizon ∧ W.horizon ≤ 500
  nSats : W.sats.length ≤ 3
  nStas : W.stas.length ≤ 3
  nRecs : W.recs.length ≤ 10
  nPass : W.pass.length ≤ 10
  dSats : (W.sats.map (·.name)).Nodup
  dStas : (W.stas.map (·.name)).Nodup
  dRecs : (W.recs.map (·.name)).Nodup
  dPass : (W.pass.map (·.name)).Nodup
  sats : ∀ s ∈ W.sats, SatOk W.horizon s
  stas : ∀ s ∈ W.stas, StaOk s
  recs : ∀ r ∈ W.recs, RecOk W r
  pass : ∀ p ∈ W.pass, PasOk W p
theorem LightOk.len {h : Int} : ∀ {l : List (Int × Int)} {least : Int}, LightOk least h l → least ≤ h → (l.length : Int) ≤ h - least
  | [], least, _, hl => by show (0 : Int) ≤ h - least; omega
  | q :: r, least, ⟨h1, h2, h3, h4⟩, hl => by
    have := h4.len h3
    rw [List.length_cons]
    omega
theorem LightOk.wd {h : Int} (hh : h ≤ 500) : ∀ {l : List (Int × Int)} {least : Int}, 0 ≤ least → LightOk least h l → ∀ w ∈ lightW l, WdOk w
  | [], _, _, _, w, hw => absurd hw List.not_mem_nil
  | q :: r, least, h0, ⟨h1, h2, h3, h4⟩, w, hw => by
    rcases List.mem_cons.mp hw with rfl | hw
    · exact num_wd (by omega) (by omega)
    · rcases List.mem_cons.mp hw with rfl | hw
      · exact num_wd (by omega) (by omega)
      · exact h4.wd hh (by omega) w hw
theorem lightW_len : ∀ l : List (Int × Int), (lightW l).length = 2 * l.length
  | [] => rfl
  | q :: r => by
    show (lightW r).length + 1 + 1 = 2 * (r.length + 1)
    rw [lightW_len r]
    omega
theorem satN_at {W : WorldD} {i : Nat} (h : i < W.sats.length) : (W.sats.map (·.name))[i]? = some (satN W i) := by
  unfold satN
  rw [List.getElem?_eq_getElem (by rw [List.length_map]; exact h)]
  rfl
theorem staN_at {W : WorldD} {i : Nat} (h : i < W.stas.length) : (W.stas.map (·.name))[i]? = some (staN W i) := by
  unfold staN
  rw [List.getElem?_eq_getElem (by rw [List.length_map]; exact h)]
  rfl
theorem satN_ok {W : WorldD} (w : WorldOk W) {i : Nat} (h : i < W.sats.length) : NameOk (satN W i) := by
  obtain ⟨s, hs, e⟩ := List.mem_map.mp (List.mem_of_getElem? (satN_at h))
  rw [← e]
  exact (w.sats s hs).name
theorem staN_ok {W : WorldD} (w : WorldOk W) {i : Nat} (h : i < W.stas.length) : NameOk (staN W i) := by
  obtain ⟨s, hs, e⟩ := List.mem_map.mp (List.mem_of_getElem? (staN_at h))
  rw [← e]
  exact (w.stas s hs).name
/-- all of a list, one by one -/
theorem all_cons {P : Str → Prop} {a : Str} {l : List Str} (h : P a) (t : ∀ w ∈ l, P w) : ∀ w ∈ a :: l, P w := fun w hw => by
  rcases List.mem_cons.mp hw with rfl | hw
  · exact h
  · exact t w hw
theorem all_nil {P : Str → Prop} : ∀ w ∈ ([] : List Str), P w := fun w hw => absurd hw List.not_mem_nil
theorem all_app {P : Str → Prop} {a b : List Str} (h : ∀ w ∈ a, P w) (t : ∀ w ∈ b, P w) : ∀ w ∈ a ++ b, P w := fun w hw => (List.mem_append.mp hw).elim (h w) (t w)
theorem wHor_wd {W : WorldD} (w : WorldOk W) : ∀ x ∈ wHor W.horizon, WdOk x :=
  all_cons (by unfold WdOk; decide +kernel) (all_cons (num_wd (by have := w.horizon; omega) (by have := w.horizon; omega)) all_nil)
theorem wSat_wd {h : Int} (hh : h ≤ 500) {s : SatD} (w : SatOk h s) : ∀ x ∈ wSat s, WdOk x := by
  have h1 := w.store; have h2 := w.battery; have h3 := w.level; have h4 := w.reserve; have h5 := w.charge; have h6 := w.settle
  exact all_app (all_cons (by unfold WdOk; decide +kernel) (all_cons w.name.wd (all_cons (by unfold WdOk; decide +kernel) (all_cons (num_wd (by omega) (by omega)) (all_cons (by unfold WdOk; decide +kernel) (all_cons (num_wd (by omega) (by omega))
    (all_cons (by unfold WdOk; decide +kernel) (all_cons (num_wd (by omega) (by omega)) (all_cons (by unfold WdOk; decide +kernel) (all_cons (num_wd (by omega) (by omega)) (all_cons (by unfold WdOk; decide +kernel) (all_cons (num_wd (by omega) (by omega))
    (all_cons (by unfold WdOk; decide +kernel) (all_cons (num_wd (by omega) (by omega)) (all_cons (by unfold WdOk; decide +kernel) all_nil))))))))))))))) (w.light.wd hh (Int.le_refl 0))
theorem wSta_wd {s : StaD} (w : StaOk s) : ∀ x ∈ wSta s, WdOk x := by
  have h1 := w.antennas; have h2 := w.turn
  exact all_cons (by unfold WdOk; decide +kernel) (all_cons w.name.wd (all_cons (by unfold WdOk; decide +kernel) (all_cons (num_wd (by omega) (by omega)) (all_cons (by unfold WdOk; decide +kernel) (all_cons (num_wd (by omega) (by omega)) all_nil)))))
theorem wRec_wd {W : WorldD} (w : WorldOk W) {r : RecD} (k : RecOk W r) : ∀ x ∈ wRec W r, WdOk x := by
  have h0 := w.horizon; have h1 := k.earliest; have h2 := k.latest; have h3 := k.length; have h4 := k.size; have h5 := k.energy; have h6 := k.worth; have h7 := k.rank; have h8 := k.deadline
  exact all_cons (by unfold WdOk; decide +kernel) (all_cons k.name.wd (all_cons (by unfold WdOk; decide +kernel) (all_cons (satN_ok w k.sat).wd
    (all_cons (by unfold WdOk; decide +kernel) (all_cons (num_wd (by omega) (by omega)) (all_cons (by unfold WdOk; decide +kernel) (all_cons (num_wd (by omega) (by omega)) (all_cons (by unfold WdOk; decide +kernel) (all_cons (num_wd (by omega) (by omega))
    (all_cons (by unfold WdOk; decide +kernel) (all_cons (num_wd (by omega) (by omega)) (all_cons (by unfold WdOk; decide +kernel) (all_cons (num_wd (by omega) (by omega)) (all_cons (by unfold WdOk; decide +kernel) (all_cons (num_wd (by omega) (by omega))
    (all_cons (by unfold WdOk; decide +kernel) (all_cons (num_wd (by omega) (by omega)) (all_cons (by unfold WdOk; decide +kernel) (all_cons (num_wd (by omega) (by omega)) all_nil)))))))))))))))))))
theorem wPas_wd {W : WorldD} (w : WorldOk W) {p : PasD} (k : PasOk W p) : ∀ x ∈ wPas W p, WdOk x := by
  have h0 := w.horizon; have h1 := k.first; have h2 := k.fin; have h3 := k.room; have h4 := k.energy; have h5 := k.fee
  exact all_cons (by unfold WdOk; decide +kernel) (all_cons k.name.wd (all_cons (by unfold WdOk; decide +kernel) (all_cons (satN_ok w k.sat).wd (all_cons (by unfold WdOk; decide +kernel) (all_cons (staN_ok w k.sta).wd
    (all_cons (by unfold WdOk; decide +kernel) (all_cons (num_wd (by omega) (by omega)) (all_cons (by unfold WdOk; decide +kernel) (all_cons (num_wd (by omega) (by omega)) (all_cons (by unfold WdOk; decide +kernel) (all_cons (num_wd (by omega) (by omega))
    (all_cons (by unfold WdOk; decide +kernel) (all_cons (num_wd (by omega) (by omega)) (all_cons (by unfold WdOk; decide +kernel) (all_cons (num_wd (by omega) (by omega)) all_nil)))))))))))))))
theorem linesW_ok {W : WorldD} (w : WorldOk W) : ∀ l ∈ linesW W, l ≠ [] ∧ (∀ x ∈ l, WdOk x) ∧ l.length ≤ 1015 := by
  intro l hl
  unfold linesW at hl
  rcases List.mem_cons.mp hl with rfl | hl
  · exact ⟨List.cons_ne_nil _ _, wHor_wd w, by show 2 ≤ 1015; decide⟩
  rcases List.mem_append.mp hl with hl | hl
  · rcases List.mem_append.mp hl with hl | hl
    · rcases List.mem_append.mp hl with hl | hl
      · obtain ⟨s, hs, rfl⟩ := List.mem_map.mp hl
        have k := w.sats s hs
        refine ⟨List.cons_ne_nil _ _, wSat_wd w.horizon.2 k, ?_⟩
        have h1 := k.light.len (by have := w.horizon; omega)
        have h2 := w.horizon
        have h3 := lightW_len s.light
        have h4 : (wSat s).length = 15 + (lightW s.light).length := by
          unfold wSat
          rw [List.length_append]
          rfl
        omega
      · obtain ⟨s, hs, rfl⟩ := List.mem_map.mp hl
        exact ⟨List.cons_ne_nil _ _, wSta_wd (w.stas s hs), by show 6 ≤ 1015; decide⟩
    · obtain ⟨s, hs, rfl⟩ := List.mem_map.mp hl
      exact ⟨List.cons_ne_nil _ _, wRec_wd w (w.recs s hs), by show 20 ≤ 1015; decide⟩
  · obtain ⟨s, hs, rfl⟩ := List.mem_map.mp hl
    exact ⟨List.cons_ne_nil _ _, wPas_wd w (w.pass s hs), by show 16 ≤ 1015; decide⟩
theorem linesW_len {W : WorldD} (w : WorldOk W) : (linesW W).length ≤ 27 := by
  have h1 := w.nSats; have h2 := w.nStas; have h3 := w.nRecs; have h4 := w.nPass
  unfold linesW
  rw [List.length_cons, List.length_append, List.length_append, List.length_append, List.length_map, List.length_map, List.length_map, List.length_map]
  omega
end DP
namespace DP
open PySem PySem.Spec PyProof.Rows L2
/-- the list at a as it stands at each turn, each item in a new pair with the count from k on -/
def IteS (K : PySem.W.Frag) (a : Addr) (k : Int) : It :=
  ⟨fun i H => ∃ (xs : List V) (x : V), SqL K H a xs ∧ xs[i]? = some x,
   fun i H v H' => ∃ T x, v = .ref T ∧ H T = none ∧ H' = upd H T (.tup [.int (k + (i : Nat)), x]) ∧ ∀ xs, SqL K H a xs → xs[i]? = some x,
   fun i H => ∃ xs : List V, SqL K H a xs ∧ xs.length ≤ i⟩
theorem list_not_iter {h : Heap} {a it : Addr} {its : Array Value} {i : Nat} (l : h.IsList a its) (r : h.IsListIter it a i) : a ≠ it := fun z => by
  obtain ⟨o, ho, hc, _⟩ := l
  obtain ⟨o', ho', hc', _⟩ := r
  rw [z, ho'] at ho
  cases ho
  rw [hc] at hc'
  exact absurd hc' (by decide)
theorem turn_enumS {P : Program} {w : World} {K : PySem.W.Frag} {elts : List Expr} {kk : Nat} {tpos : Pos} (a en it : Addr) (k : Int) :
    Turn P w K (.Tuple elts kk tpos) (IteS K a k) [en, it] en (fun i h => (∃ old, IsEnum h en it (k + ((i : Nat) : Int)) old) ∧ h.IsListIter it a i ∧ en ≠ it) where
  mem := by simp
  obj := fun i h st b hb => by
    obtain ⟨⟨old, hen⟩, ⟨o, ho, hc, hd⟩, _⟩ := st
    have two : b = en ∨ b = it := by simpa using hb
    rcases two with z | z
    · subst z
      exact ⟨_, hen, fun v q => nomatch q⟩
    · subst z
      exact ⟨o, ho, fun v q => by rw [hd] at q; cases q⟩
  keep := fun i h h' st kp => by
    obtain ⟨⟨old, hen⟩, hi, hne⟩ := st
    exact ⟨⟨old, kp en (by simp) _ hen⟩, hi.at fun o q => kp it (by simp) o q, hne⟩
  item := by
    intro X hP hw hK hc i pins s σ H E I hf st hg
    subst hP hw hK
    obtain ⟨⟨old, hen⟩, hit, hne⟩ := st
    obtain ⟨xs, x, hq, hx⟩ := hg
    obtain ⟨its, rv, pl, hz⟩ := I.list hq
    obtain ⟨u, hu, ru⟩ := rv.get hx
    have en_lt : en < s.heap.objs.size := Heap.lt_size hen
    have it_lt : it < s.heap.objs.size := by
      obtain ⟨_, q, _⟩ := hit
      exact Heap.lt_size q
    have nel := list_not_iter pl.isList hit
    have Dr := Draws.list (prog := X.prog) (w := X.w) (A := X.A.in1) (I.ok.hd hc) it a nel its.toArray
    have hi : i < its.toArray.size := by
      have := (List.getElem?_eq_some_iff.mp hu).1
      simpa using this
    by_cases ea : en = a
    · exfalso
      obtain ⟨o, ho, hc', _⟩ := pl.isList
      rw [← ea, hen] at ho
      cases ho
      have e : Value.type "enumerate" = Value.type "list" := hc'
      exact absurd e (by decide)
    refine wpAny_pyNext_enum_itemC Dr hen ⟨hit, pl.isList⟩ hi hne (by simp [hne, ea]) fun x' h' tk hP ho hit' hT hsz hk => ?_
    have ex : x' = u := by
      have e1 : its.toArray[i]? = some x' := hP
      have e2 : its.toArray[i]? = some u := by simpa using hu
      exact Option.some.inj (e1.symm.trans e2)
    subst ex
    refine ⟨_, rfl, wpAny_letOwnedTupleGo_enum (s := { s with heap := h', toks := tk + 1 }) ho fun h2 hen2 sb => ?_⟩
    have hT2 : h2.get? s.heap.objs.size = some { cls := .type "tuple", data := .seq #[.int (k + (i : Int)) tk, x'] } :=
      (sb.2 _ (Nat.ne_of_gt en_lt)).trans hT
    have fresh : H s.heap.objs.size = none := I.hok.fresh (Nat.le_refl _)
    have new : ObjOk X.prog X.w (upd H s.heap.objs.size (.tup [.int (k + (i : Nat)), x])) h2 s.heap.objs.size (.tup [.int (k + (i : Nat)), x]) :=
      ⟨(by show 2 ≤ sizeLine; decide), [.int (k + (i : Int)) tk, x'], .cons ⟨_, rfl⟩ (.cons ru .nil), ⟨_, hT2, rfl, _, rfl⟩⟩
    have keepAll : ∀ b ob, b ∉ [en, it] → s.heap.get? b = some ob → h2.get? b = some ob := fun b ob hb q => by
      have n1 : b ≠ en := fun z => hb (by simp [z])
      have n2 : b ≠ it := fun z => hb (by simp [z])
      exact (sb.2 b n1).trans (hk b ob n1 n2 q)
    have I1 := I.turnedNew (t' := tk + 1) (ch := [en, it]) keepAll hf (Nat.le_refl _) new
    refine ⟨.ref s.heap.objs.size, _, I1, rfl, ⟨_, x, rfl, fresh, rfl, fun ys hy => ?_⟩, ⟨⟨x', ?_⟩, ?_, hne⟩, fun b hb => ?_⟩
    · rw [I.list_inj hy hq]
      exact hx
    · have e1 : k + ((i + 1 : Nat) : Int) = k + (i : Int) + 1 := by omega
      rw [e1]
      exact hen2
    · exact hit'.1.at fun o q => (sb.2 it (Ne.symm hne)).trans q
    · have hb' : b < s.heap.objs.size := by
        have two : b = en ∨ b = it := by simpa using hb
        rcases two with z | z
        · rw [z]; exact en_lt
        · rw [z]; exact it_lt
      rw [upd_ne (Nat.ne_of_lt hb')]
      exact (hf b hb).1
  done := by
    intro X hP hw hK hc i pins s σ H E I hf st hg
    subst hP hw hK
    obtain ⟨⟨old, hen⟩, hit, hne⟩ := st
    obtain ⟨xs, hq, hx⟩ := hg
    obtain ⟨its, rv, pl, hz⟩ := I.list hq
    have hl := rv.length
    obtain ⟨f0, f1, f2, f3, f4, f5⟩ := hf it (by simp)
    have hT : s.TypeIs (.ref en) "enumerate" := ⟨_, hen, rfl⟩
    unfold pyNext
    refine wpAny_bind (wpAny_attempt (wpAny_callSpecial?_slot (name := Str.ofString "__next__") hT F.slot_enumerate_next
      (wpAny_call_entry F.slot_enumerate_next hT F.entry_enumerate_next ?_
        (F.args_enumerate_next_1 _))))
    show wpAny _ _ (field (.ref en) 2 >>= _) _ _ _
    refine wpAny_bind (wpAny_field hen rfl (x := .ref it) rfl ?_)
    refine wpAny_bind (wpAny_nextOf_list_end (I.ok.hd hc) hit pl.isList (by simp; omega) fun h' e eb hcl => ?_)
    obtain ⟨o, ho, hcs⟩ := hcl
    refine wpAny_bind (wpAny_isInstance (T := "StopIteration") (b := true) ⟨o, ho, hcs⟩ isSubtype_stop ?_)
    exact wpAny_pure ⟨rfl, I.turned (t' := s.toks) (fun b o hb q => eb b o hb q) f0 f1 f3 f4 f5⟩
  self := fun A i s Q E st h => let ⟨⟨_, hen⟩, _⟩ := st; wpAny_pyIter_enum hen h
/-- enumerate(xs, start=k), walked into a written tuple of names -/
def iEnumS (K : PySem.W.Frag) (ta tk : TA) : TI := fun σ H R => ta σ H fun vs H1 => tk σ H1 fun zs H2 =>
  ∃ a xs k, vs = [.ref a] ∧ zs = [.int k] ∧ SqL K H2 a xs ∧ -(2 ^ 63) ≤ k ∧ k < 2 ^ 63 ∧ R (IteS K a k) H2
theorem pi_enumS {X : Cx} {e ke : Expr} {ta tk : TA} {p pos tpos kp : Pos} {elts : List Expr} {kk : Nat} (hg : Gl X "enumerate") (hm : X.mg "enumerate" = none) (ha : PA X [e] ta) (hk : PK X [⟨some "start", ke, kp⟩] tk)
    (hs : starEach [e] X.env = (false, eval e X.env) :: starEach [] X.env := by rfl) (hpl : ((backTo pos (starEach [e] X.env)).any (·.1) || (backToKw pos (keywordEach [⟨some "start", ke, kp⟩] X.env)).any (·.1.isNone)) = false := by rfl) :
    PI X (.Tuple elts kk tpos) (.Call (.Name "enumerate" p) [e] [⟨some "start", ke, kp⟩] pos) (iEnumS X.K ta tk) := by
  refine ⟨fun pins s σ H R I h => ?_⟩
  refine wpAny_Call_Name_kw (ld_blt I hg hm boot_enumerate ?_)
  refine PySem.W.callWith_of (P := fun _ => True) hpl (fun h _ => ⟨.machine, .inr (.inl rfl), PySem.W.Looks.of_pure rfl⟩) (evalArgs_kw2 (by rfl)
    (thn (ha.run pos pins s σ H _ I h) fun us s1 ⟨vs, H1, I1, r1, q1⟩ => thn (hk.run pos pins s1 σ H1 _ I1 q1) fun ws s2 ⟨zs, H2, I2, r2, q2⟩ => ⟨True.intro, ?_⟩) hs)
  obtain ⟨a, xs, k, ex, ez, hq, b1, b2, q⟩ := q2
  subst ex ez
  obtain ⟨u, eu, ru⟩ := vals1 r1
  obtain ⟨z, ez, rz⟩ := vals1 r2
  subst eu ez
  cases ru
  obtain ⟨t, et⟩ := (show ∃ t, z = Value.int k t from rz)
  subst et
  obtain ⟨its, rv, pl, hz⟩ := I2.list hq
  show wpAny _ _ (call (.type "enumerate") [.ref a] [(Str.ofString "start", .int k t)]) _ _ _
  refine enum_begins_start (begins_list a its.toArray) pl.isList b1 b2 fun h' hen hit hsz hkp => wpAny_pyIter_enum hen ?_
  have I3 : Inv X pins σ H2 { s2 with heap := h' } := I2.kept (t' := s2.toks) hkp
  refine ⟨s2.heap.objs.size + 1, [s2.heap.objs.size + 1, s2.heap.objs.size], _, _, H2, rfl, I3, turn_enumS a (s2.heap.objs.size + 1) s2.heap.objs.size k,
    ⟨⟨.none, ?_⟩, ⟨_, hit, rfl, rfl⟩, Nat.succ_ne_self _⟩, fun b hb => ?_, q⟩
  · show IsEnum h' _ _ (k + 0) _
    rw [Int.add_zero]
    exact hen
  · have two : b = s2.heap.objs.size + 1 ∨ b = s2.heap.objs.size := by simpa using hb
    have hle : s2.heap.objs.size ≤ b := by
      rcases two with z | z
      · rw [z]; exact Nat.le_add_right _ 1
      · rw [z]; exact Nat.le_refl _
    exact I2.fpOk hle (I2.hok.fresh hle)
theorem walk_enumS {K : PySem.W.Frag} {a : Addr} {k : Int} {xs : List V} :
    Walk (IteS K a k) xs.length (fun H => SqL K H a xs) (fun i H v H' => ∃ T x, v = .ref T ∧ H T = none ∧ H' = upd H T (.tup [.int (k + (i : Nat)), x]) ∧ xs[i]? = some x) :=
  ⟨fun i H hi q => ⟨xs, xs[i], q, List.getElem?_eq_getElem hi⟩, fun H q => ⟨xs, q, Nat.le_refl _⟩, fun i H v H' hi q ⟨T, x, e1, e2, e3, e4⟩ => ⟨T, x, e1, e2, e3, e4 xs q⟩⟩
theorem same_mk {H H' : Hp} {x dx : Addr} {o u : HO} (hx : H x = none) (hd : H dx = none) (s : ∀ b v, b ≠ x → (upd (upd H dx o) x u) b = some v → H' b = some v) : Same H H' := fun b v e => by
  have n1 : b ≠ x := ne_of_none e hx
  exact s b v n1 (by rw [upd_ne n1, upd_ne (ne_of_none e hd)]; exact e)
end DP
namespace DP
open PySem PySem.Spec PyProof.Rows L2
structure ClsAt (K : PySem.W.Frag) (mg : Str → Option Value) (x : Str) (C : Addr) : Prop where
  cl : Cls K C
  mkC : PySem.W.makesIn K C = true
  kp : PySem.W.keepIn K (.ref C) = true
  gC : mg x = some (.ref C)
structure MAt (K : PySem.W.Frag) (C : Addr) (m qual : Str) (st : Stmt) (ps : List Str) : Prop where
  ex : ∃ f fd, Fun K m qual st f fd ∧ Meth K C m f ∧ Binds K fd ps []
structure MDef (P : Program) (w : World) (K : PySem.W.Frag) (mg : Str → Option Value) (base : Heap) (CX : CXT) (k : Nat) (C : Addr) (m : Str) (ps : List Str) (ds : List V) (sp : Sp) : Prop where
  ex : ∃ f fd us, FnOk P w K mg base CX k f fd ps sp ∧ Meth K C m f ∧ Binds K fd ps us ∧ Vals ds us
section
variable {X : Cx} {CX : CXT} {k : Nat} {C : Addr} {x m : Str} {ps : List Str} {ds : List V} {sp : Sp} {E : XK} {o e : Expr} {es : List Expr} {ta : TE} {t : TA} {p pos apos : Pos} {pl : Sem Bool}
theorem pe_m (D : MDef X.prog X.w X.K X.mg X.base CX k C m ps ds sp) (c : Cls X.K C) (hr : Room k X.A) (hx : Passes CX X E) (he : PE X o ta) (ha : PA X (e :: es) t)
    (hst : starEach (e :: es) X.env = (false, eval e X.env) :: starEach es X.env := by rfl) (hpl : (backTo pos (starEach es X.env)).any (·.1) = false := by rfl)
    (ht : eval (.Call (.Attribute o m apos) (e :: es) [] pos) X.env = (do
      let ov ← eval o X.env
      standAt apos.atName
      let (f, first) ← holding [ov] (getMethod ov m pl)
      callWith pos f first (backTo pos (starEach (e :: es) X.env)) (backToKw pos (keywordEach [] X.env))) := by rfl) :
    PE X (.Call (.Attribute o m apos) (e :: es) [] pos) (tMeth C m sp ds E ta t) := by
  obtain ⟨f, fd, us, G, M, b, v⟩ := D.ex
  exact pe_meth (pl := pl) he c M G hr b v hx ha hst hpl ht
theorem pe_m0 (D : MDef X.prog X.w X.K X.mg X.base CX k C m ps ds sp) (c : Cls X.K C) (hr : Room k X.A) (hx : Passes CX X E) (he : PE X o ta)
    (ht : eval (.Call (.Attribute o m apos) [] [] pos) X.env = (do
      let ov ← eval o X.env
      standAt apos.atName
      let (f, first) ← holding [ov] (getMethod ov m pl)
      callWith pos f first (backTo pos (starEach [] X.env)) (backToKw pos (keywordEach [] X.env))) := by rfl) :
    PE X (.Call (.Attribute o m apos) [] [] pos) (tMeth C m sp ds E ta tNil) := by
  obtain ⟨f, fd, us, G, M, b, v⟩ := D.ex
  exact pe_meth0 (pl := pl) he c M G hr b v hx ht
theorem pe_mk (D : MDef X.prog X.w X.K X.mg X.base CX k C "__init__" ps ds sp) (c : ClsAt X.K X.mg x C) (hr : Room (k + 1) X.A) (hx : Passes CX X E) (ha : PA X (e :: es) t) (hg : Gl X x := by rfl)
    (hdb : (x == ("__debug__" : Str)) = false := by decide) (he : starEach (e :: es) X.env = (false, eval e X.env) :: starEach es X.env := by rfl) (hpl : (backTo pos (starEach es X.env)).any (·.1) = false := by rfl) :
    PE X (.Call (.Name x p) (e :: es) [] pos) (tMake C sp ds E t) := by
  obtain ⟨f, fd, us, G, M, b, v⟩ := D.ex
  exact pe_make ⟨c.mkC, M.at_, M.fn, c.kp⟩ G hr hg c.gC b v hx ha hdb he hpl
/-- a constant of the module -/
theorem pe_gi {i : Int} (h : ∃ t, X.mg x = some (.int i t)) (hg : Gl X x := by rfl) (hd : (x == ("__debug__" : Str)) = false := by decide) : PE X (.Name x pos) (tC (.int i)) := by
  obtain ⟨t, h⟩ := h
  exact pe_glob hg h ⟨t, rfl⟩ hd
theorem pe_gs {z : Str} (h : ∃ t, X.mg x = some (.str z t)) (hg : Gl X x := by rfl) (hd : (x == ("__debug__" : Str)) = false := by decide) : PE X (.Name x pos) (tC (.str z)) := by
  obtain ⟨t, h⟩ := h
  exact pe_glob hg h ⟨t, rfl⟩ hd
theorem pe_ga {a : Addr} (h : X.mg x = some (.ref a)) (hg : Gl X x := by rfl) (hd : (x == ("__debug__" : Str)) = false := by decide) : PE X (.Name x pos) (tC (.ref a)) := pe_glob hg h rfl hd
end
/-- a method with one default -/
structure MAtD (K : PySem.W.Frag) (C : Addr) (m qual : Str) (st : Stmt) (ps : List Str) (ds : List V) : Prop where
  ex : ∃ f fd us, FunD K m qual (defArgs st) (defBody st) (defScope st) ds [] f fd ∧ Meth K C m f ∧ Binds K fd ps us ∧ Vals ds us
theorem pe_fldK {X : Cx} {K : PySem.W.Frag} (h : X.K = K) {e : Expr} {ta : TE} {f : Str} {pos : Pos} (he : PE X e ta) (hb : attributeBase e f X.env (eval e X.env) = eval e X.env) : PE X (.Attribute e f pos) (tFld K ta f) := by
  subst h
  exact pe_fld he hb
theorem pg_tupK {X : Cx} {K : PySem.W.Frag} (h : X.K = K) {es : List Expr} {k n : Nat} {pos : Pos} {g : TGs} (hc : X.calm = true) (hs : PGs X es g)
    (hn : (assignEach es X.env).length = n := by rfl) (hst : (assignEach es X.env).findIdx? (·.1) = none := by rfl) : PG X (.Tuple es k pos) (gTup K n g) := by
  subst h
  exact pg_tup hc hs hn hst
section
variable {P : Program} {w : World} {K : PySem.W.Frag} {mg : Str → Option Value} {base : Heap} {C : Addr} {m qual : Str} {st : Stmt} {ps N : List Str} {k : Nat} {sp sp' : Sp} {ds : List V}
theorem MAt.ok (F : MAt K C m qual st ps) (S : FnScope N ps (defScope st)) (len : ∀ vs H Q E, sp vs H Q E → vs.length = ps.length)
    (hbody : ∀ (f : Addr) (cdv : Value) (A : Around) (outer : List Env) (s : Shared) (H : Hp) (vs : List V) (Q : VK) (E : XK), Room k (A.deeper (envOfC qual (defScope st) s.heap.objs.size f cdv)) → sp vs H Q E →
      ∃ t, PSs (cxOf CX0 P w K mg base N qual (defScope st) f cdv A outer s H E).nox (defBody st) t ∧ t { nx := fun _ H' => Q .non H', rt := Q } (start N vs) H) : MDef P w K mg base CX0 (k + 1) C m ps [] sp := by
  obtain ⟨f, fd, G, M, b⟩ := F.ex
  exact ⟨f, fd, [], G.ok S len (fun cdv A outer s H vs Q E hr h => hbody f cdv A outer s H vs Q E hr h), M, b, .nil⟩
theorem MAtD.ok (F : MAtD K C m qual st ps ds) (S : FnScope N ps (defScope st)) (len : ∀ vs H Q E, sp vs H Q E → vs.length = ps.length)
    (hbody : ∀ (f : Addr) (cdv : Value) (A : Around) (outer : List Env) (s : Shared) (H : Hp) (vs : List V) (Q : VK) (E : XK), Room k (A.deeper (envOfC qual (defScope st) s.heap.objs.size f cdv)) → sp vs H Q E →
      ∃ t, PSs (cxOf CX0 P w K mg base N qual (defScope st) f cdv A outer s H E).nox (defBody st) t ∧ t { nx := fun _ H' => Q .non H', rt := Q } (start N vs) H) : MDef P w K mg base CX0 (k + 1) C m ps ds sp := by
  obtain ⟨f, fd, us, G, M, b, v⟩ := F.ex
  refine ⟨f, fd, us, G.ok S len (fun cdv A outer s H vs Q E hr h => ?_), M, b, v⟩
  obtain ⟨t, h1, h2⟩ := hbody f cdv A outer s H vs Q E hr h
  exact ⟨t, h1.nox, h2⟩
theorem MDef.imp (D : MDef P w K mg base CX0 k C m ps ds sp) (h : ∀ vs H Q E, sp' vs H Q E → sp vs H Q E) : MDef P w K mg base CX0 k C m ps ds sp' := by
  obtain ⟨f, fd, us, G, M, b, v⟩ := D.ex
  exact ⟨f, fd, us, G.imp h, M, b, v⟩
end
theorem lk_hit {a : Str} {b : V} {es : List (Str × V)} : List.lookup a ((a, b) :: es) = some b := by
  unfold List.lookup
  rw [beq_self_eq_true]
theorem lk_miss {a k : Str} {b : V} {es : List (Str × V)} (h : (a == k) = false) : List.lookup a ((k, b) :: es) = List.lookup a es := by
  show (match a == k with | true => some b | false => List.lookup a es) = _
  rw [h]
theorem put_hit {f : Str} {v x : V} {r : List (Str × V)} : putF f v ((f, x) :: r) = (f, v) :: r := by
  show (if f = f then _ else _) = _
  rw [if_pos rfl]
theorem put_miss {f g : Str} {v x : V} {r : List (Str × V)} (h : (g == f) = false) : putF f v ((g, x) :: r) = (g, x) :: putF f v r := by
  have h1 : ¬ g = f := fun z => by
    rw [z, beq_self_eq_true] at h
    cases h
  show (if g = f then _ else _) = _
  rw [if_neg h1]
theorem put_nil {f : Str} {v : V} : putF f v [] = [(f, v)] := rfl
theorem put_lt {f : Str} {v : V} {k m : Nat} : ∀ {fs : List (Str × V)}, fs.length + (k + 1) < m → (putF f v fs).length + k < m
  | [], h => by
    show 1 + k < m
    have : 0 + (k + 1) < m := h
    omega
  | (g, x) :: r, h => by
    rw [List.length_cons] at h
    show (if g = f then (g, v) :: r else (g, x) :: putF f v r).length + k < m
    by_cases c : g = f
    · rw [if_pos c, List.length_cons]
      omega
    · rw [if_neg c, List.length_cons]
      have := put_lt (f := f) (v := v) (k := k + 1) (m := m) (fs := r) (by omega)
      omega
theorem put_lt0 {f : Str} {v : V} {m : Nat} {fs : List (Str × V)} (h : fs.length + 1 < m) : (putF f v fs).length < m := put_lt (k := 0) h
theorem ins_ne {H : Hp} {a b C D dx dy : Addr} {fs gs : List (Str × V)} (h : H a = some (.ins C dx fs)) (h' : H b = some (.ins D dy gs)) (n : fs.length ≠ gs.length) : a ≠ b := fun z => by
  rw [z, h'] at h
  injection h with h
  injection h with h1 h2 h3
  exact n (by rw [h3])
/-- all that stood but a is as it was -/
def SameX (a : Addr) (H H' : Hp) : Prop := ∀ b o, b ≠ a → H b = some o → H' b = some o
theorem SameX.refl (a : Addr) (H : Hp) : SameX a H H := fun _ _ _ h => h
theorem SameX.trans {a : Addr} {H H1 H2 : Hp} (x : SameX a H H1) (y : SameX a H1 H2) : SameX a H H2 := fun b o n h => y b o n (x b o n h)
theorem SameX.of {a : Addr} {H H' : Hp} (s : Same H H') : SameX a H H' := fun b o _ h => s b o h
theorem SameX.upd {a : Addr} {H : Hp} {o : HO} : SameX a H (L2.upd H a o) := fun b u n h => by rw [upd_ne n]; exact h
theorem SameX.at_ {a : Addr} {H H' : Hp} {o : HO} (x : SameX a H H') : SameX a H (L2.upd H' a o) := fun b u n h => by rw [upd_ne n]; exact x b u n h
end DP
namespace DP
open PySem PySem.Spec PyProof.Rows L2
def topS (i : Nat) : Stmt := PySem.Challenge.pw_downpass_k03_faults_of_worlds.main.body.getD i (.Pass ⟨0, 0, 0, 0⟩)
end DP
namespace DP
open PySem PySem.Spec PyProof.Rows L2
abbrev s_lines_of : Stmt := topS 8
theorem sc_lines_of : FnScope ["text", "rows", "last", "number", "row"] ["text"] (defScope s_lines_of) := ⟨rfl, rfl, rfl, by decide +kernel, rfl, by decide +kernel, by decide +kernel⟩
abbrev s_is_name : Stmt := topS 9
theorem sc_is_name : FnScope ["word", "letter"] ["word"] (defScope s_is_name) := ⟨rfl, rfl, rfl, by decide +kernel, rfl, by decide +kernel, by decide +kernel⟩
abbrev s_is_number : Stmt := topS 10
theorem sc_is_number : FnScope ["word", "letter"] ["word"] (defScope s_is_number) := ⟨rfl, rfl, rfl, by decide +kernel, rfl, by decide +kernel, by decide +kernel⟩
abbrev s_Line___init__ : Stmt := inClass (topS 11) 0
theorem sc_Line___init__ : FnScope ["self", "number", "row"] ["self", "number", "row"] (defScope s_Line___init__) := ⟨rfl, rfl, rfl, by decide +kernel, rfl, by decide +kernel, by decide +kernel⟩
abbrev s_Line_has_more : Stmt := inClass (topS 11) 2
theorem sc_Line_has_more : FnScope ["self"] ["self"] (defScope s_Line_has_more) := ⟨rfl, rfl, rfl, by decide +kernel, rfl, by decide +kernel, by decide +kernel⟩
abbrev s_Line_due : Stmt := inClass (topS 11) 3
theorem sc_Line_due : FnScope ["self", "word"] ["self"] (defScope s_Line_due) := ⟨rfl, rfl, rfl, by decide +kernel, rfl, by decide +kernel, by decide +kernel⟩
abbrev s_Line_step : Stmt := inClass (topS 11) 4
theorem sc_Line_step : FnScope ["self"] ["self"] (defScope s_Line_step) := ⟨rfl, rfl, rfl, by decide +kernel, rfl, by decide +kernel, by decide +kernel⟩
abbrev s_Line_read_choice : Stmt := inClass (topS 11) 5
theorem sc_Line_read_choice : FnScope ["self", "choices", "word"] ["self", "choices"] (defScope s_Line_read_choice) := ⟨rfl, rfl, rfl, by decide +kernel, rfl, by decide +kernel, by decide +kernel⟩
abbrev s_Line_read_number : Stmt := inClass (topS 11) 6
theorem sc_Line_read_number : FnScope ["self", "least", "most", "word", "number"] ["self", "least", "most"] (defScope s_Line_read_number) := ⟨rfl, rfl, rfl, by decide +kernel, rfl, by decide +kernel, by decide +kernel⟩
abbrev s_Line_read_field : Stmt := inClass (topS 11) 7
theorem sc_Line_read_field : FnScope ["self", "word", "least", "most"] ["self", "word", "least", "most"] (defScope s_Line_read_field) := ⟨rfl, rfl, rfl, by decide +kernel, rfl, by decide +kernel, by decide +kernel⟩
abbrev s_Line_due_name : Stmt := inClass (topS 11) 8
theorem sc_Line_due_name : FnScope ["self", "word"] ["self"] (defScope s_Line_due_name) := ⟨rfl, rfl, rfl, by decide +kernel, rfl, by decide +kernel, by decide +kernel⟩
abbrev s_Line_read_new_name : Stmt := inClass (topS 11) 9
theorem sc_Line_read_new_name : FnScope ["self", "used", "word"] ["self", "used"] (defScope s_Line_read_new_name) := ⟨rfl, rfl, rfl, by decide +kernel, rfl, by decide +kernel, by decide +kernel⟩
abbrev s_Line_read_known_name : Stmt := inClass (topS 11) 10
theorem sc_Line_read_known_name : FnScope ["self", "names", "least", "word", "number"] ["self", "names", "least"] (defScope s_Line_read_known_name) := ⟨rfl, rfl, rfl, by decide +kernel, rfl, by decide +kernel, by decide +kernel⟩
abbrev s_Line_finish : Stmt := inClass (topS 11) 11
theorem sc_Line_finish : FnScope ["self"] ["self"] (defScope s_Line_finish) := ⟨rfl, rfl, rfl, by decide +kernel, rfl, by decide +kernel, by decide +kernel⟩
def lnF (n : Int) (wl : Addr) (r : Nat) (c : Int) : List (Str × V) := [("number", .int n), ("words", .ref wl), ("read", .int r), ("column", .int c)]
theorem lnF_number {n : Int} {wl : Addr} {r : Nat} {c : Int} : (lnF n wl r c).lookup ("number" : Str) = some (.int n) := by unfold lnF; exact lk_hit
theorem lnF_words {n : Int} {wl : Addr} {r : Nat} {c : Int} : (lnF n wl r c).lookup ("words" : Str) = some (.ref wl) := by unfold lnF; exact (lk_miss (by decide +kernel)).trans lk_hit
theorem lnF_read {n : Int} {wl : Addr} {r : Nat} {c : Int} : (lnF n wl r c).lookup ("read" : Str) = some (.int r) := by
  unfold lnF; exact (lk_miss (by decide +kernel)).trans ((lk_miss (by decide +kernel)).trans lk_hit)
theorem lnF_column {n : Int} {wl : Addr} {r : Nat} {c : Int} : (lnF n wl r c).lookup ("column" : Str) = some (.int c) := by
  unfold lnF; exact (lk_miss (by decide +kernel)).trans ((lk_miss (by decide +kernel)).trans ((lk_miss (by decide +kernel)).trans lk_hit))
theorem lnF_no {n : Int} {wl : Addr} {r : Nat} {c : Int} {m : Str} (h1 : (m == ("number" : Str)) = false) (h2 : (m == ("words" : Str)) = false) (h3 : (m == ("read" : Str)) = false) (h4 : (m == ("column" : Str)) = false) : (lnF n wl r c).lookup m = none := by
  unfold lnF
  exact (lk_miss h1).trans ((lk_miss h2).trans ((lk_miss h3).trans ((lk_miss h4).trans rfl)))
theorem lnF_put_column {n : Int} {wl : Addr} {r : Nat} {c d : Int} : putF "column" (.int d) (lnF n wl r c) = lnF n wl r d := by
  unfold lnF
  rw [put_miss (by decide +kernel), put_miss (by decide +kernel), put_miss (by decide +kernel), put_hit]
theorem lnF_put_read {n : Int} {wl : Addr} {r q : Nat} {c : Int} : putF "read" (.int q) (lnF n wl r c) = lnF n wl q c := by
  unfold lnF
  rw [put_miss (by decide +kernel), put_miss (by decide +kernel), put_hit]
/-- the line at a, its words ws, r of them passed -/
structure LnAt (C : Addr) (H : Hp) (a : Addr) (ws : List Str) (r : Nat) : Prop where
  ex : ∃ dx n wl c, H a = some (.ins C dx (lnF n wl r c)) ∧ H wl = some (.lst (ws.map V.str))
  ok : ∀ w ∈ ws, WdOk w
theorem LnAt.same {C : Addr} {H H' : Hp} {a : Addr} {ws : List Str} {r : Nat} (h : LnAt C H a ws r) (s : Same H H') : LnAt C H' a ws r := by
  obtain ⟨dx, n, wl, c, h1, h2⟩ := h.ex
  exact ⟨⟨dx, n, wl, c, s _ _ h1, s _ _ h2⟩, h.ok⟩
theorem map_at {ws : List Str} {i : Nat} {w : Str} (h : ws[i]? = some w) : atI (ws.map V.str) (i : Int) = some (.str w) := atI_nat (by rw [List.getElem?_map, h]; rfl)
theorem wd_len {w : Str} (h : WdOk w) : w.length ≤ 16 := by rw [TL.len_tl]; exact h.2.2.2
/-- what the text tells of the class Line and its module -/
structure TxtL (K : PySem.W.Frag) (mg : Str → Option Value) (C : Addr) : Prop where
  B : Bt mg
  c_Line : ClsAt K mg "Line" C
  n_number : NoAttr K C "number"
  n_words : NoAttr K C "words"
  n_read : NoAttr K C "read"
  n_column : NoAttr K C "column"
  g_LETTERS : ∃ t, mg "LETTERS" = some (.str "abcdefghijklmnopqrstuvwxyzABCDEFGHIJKLMNOPQRSTUVWXYZ" t)
  g_DIGITS : ∃ t, mg "DIGITS" = some (.str "0123456789" t)
  g_MOST_NAME : ∃ t, mg "MOST_NAME" = some (.int 15 t)
  g_MOST_DIGITS : ∃ t, mg "MOST_DIGITS" = some (.int 7 t)
section
variable {P : Program} {w : World} {K : PySem.W.Frag} {mg : Str → Option Value} {base : Heap} {C : Addr}
theorem inV_str {u : Str} {cs : List Str} : inV (.str u) (cs.map V.str) = decide (u ∈ cs) := by
  unfold inV
  rw [List.any_map]
  induction cs with
  | nil => rfl
  | cons c r ih =>
    rw [List.any_cons, ih]
    show (decide (c = u) || decide (u ∈ r)) = decide (u ∈ c :: r)
    rw [← Bool.decide_or]
    refine decide_eq_decide.mpr ⟨fun z => ?_, fun z => ?_⟩
    · rcases z with z | z
      · rw [z]; exact List.mem_cons_self
      · exact List.mem_cons_of_mem _ z
    · rcases List.mem_cons.mp z with z | z
      · exact .inl z.symm
      · exact .inr z
theorem flat_strs {cs : List Str} : (cs.map V.str).all flatV = true := by
  rw [List.all_map]
  exact List.all_eq_true.mpr fun _ _ => rfl
/-- a number's text -/
theorem dig_in {c : Nat} (h : 48 ≤ c ∧ c ≤ 57) : c ∈ ("0123456789" : Str).cps.toList := by
  have all : ∀ d, d < 58 → 48 ≤ d → d ∈ ("0123456789" : Str).cps.toList := by decide +kernel
  exact all c (by omega) h.1
theorem str1_inj {a b : Nat} (h : (⟨#[a]⟩ : Str) = ⟨#[b]⟩) : a = b := by
  injection h with h
  injection h with h
  injection h
theorem int_of_num {n : Int} (h0 : 0 ≤ n) (h1 : n < 10000000) : PySem.intText? (num n) = some n ∧ (num n).length ≤ 640 := by
  have e : n = ((n.toNat : Nat) : Int) := by omega
  have hl := numL_len7 (n := n.toNat) (by omega)
  refine ⟨?_, ?_⟩
  · have h := TL.int_num (n := n.toNat) (Nat.le_trans hl (by decide))
    rw [← e] at h
    exact h
  · rw [TL.len_tl, show TL.tl (num n) = tl (num n) from rfl, num_nat h0]
    omega
/-- a name's text -/
theorem let_in {c : Nat} (h : isL c = true) : c ∈ ("abcdefghijklmnopqrstuvwxyzABCDEFGHIJKLMNOPQRSTUVWXYZ" : Str).cps.toList := by
  have all : ∀ d, d < 123 → isL d = true → d ∈ ("abcdefghijklmnopqrstuvwxyzABCDEFGHIJKLMNOPQRSTUVWXYZ" : Str).cps.toList := by decide +kernel
  exact all c (by have := isL_lt h; omega) h
end
end DP
namespace DP
open PySem PySem.Spec PyProof.Rows L2
abbrev s_names_of : Stmt := topS 29
theorem sc_names_of : FnScope ["things", "thing"] ["things"] (defScope s_names_of) := ⟨rfl, rfl, rfl, by decide +kernel, rfl, by decide +kernel, by decide +kernel⟩
abbrev s_read_light : Stmt := topS 31
theorem sc_read_light : FnScope ["line", "horizon", "light", "least", "first"] ["line", "horizon"] (defScope s_read_light) := ⟨rfl, rfl, rfl, by decide +kernel, rfl, by decide +kernel, by decide +kernel⟩
abbrev s_read_satellite : Stmt := topS 30
theorem sc_read_satellite : FnScope ["line", "horizon", "things", "name", "store", "battery", "level", "reserve", "charge", "settle", "light"] ["line", "horizon", "things"] (defScope s_read_satellite) := ⟨rfl, rfl, rfl, by decide +kernel, rfl, by decide +kernel, by decide +kernel⟩
abbrev s_read_station : Stmt := topS 32
theorem sc_read_station : FnScope ["line", "_", "things", "name", "antennas", "turn"] ["line", "_", "things"] (defScope s_read_station) := ⟨rfl, rfl, rfl, by decide +kernel, rfl, by decide +kernel, by decide +kernel⟩
abbrev s_read_recording : Stmt := topS 33
theorem sc_read_recording : FnScope ["line", "horizon", "things", "name", "satellite", "earliest", "latest", "length", "size", "energy", "worth", "rank", "deadline"] ["line", "horizon", "things"] (defScope s_read_recording) := ⟨rfl, rfl, rfl, by decide +kernel, rfl, by decide +kernel, by decide +kernel⟩
abbrev s_read_pass : Stmt := topS 34
theorem sc_read_pass : FnScope ["line", "horizon", "things", "name", "satellite", "station", "first", "end", "room", "energy", "fee"] ["line", "horizon", "things"] (defScope s_read_pass) := ⟨rfl, rfl, rfl, by decide +kernel, rfl, by decide +kernel, by decide +kernel⟩
abbrev s_most_things : Stmt := topS 39
theorem sc_most_things : FnScope ["sort", "most"] ["sort"] (defScope s_most_things) := ⟨rfl, rfl, rfl, by decide +kernel, rfl, by decide +kernel, by decide +kernel⟩
abbrev s_read_sort : Stmt := topS 38
theorem sc_read_sort : FnScope ["line", "ahead", "things", "word", "sort"] ["line", "ahead", "things"] (defScope s_read_sort) := ⟨rfl, rfl, rfl, by decide +kernel, rfl, by decide +kernel, by decide +kernel⟩
abbrev s_read_things : Stmt := topS 37
theorem sc_read_things : FnScope ["lines", "horizon", "things", "sort", "line", "reader"] ["lines", "horizon"] (defScope s_read_things) := ⟨rfl, rfl, rfl, by decide +kernel, rfl, by decide +kernel, by decide +kernel⟩
abbrev s_Satellite___init__ : Stmt := inClass (topS 24) 0
theorem sc_Satellite___init__ : FnScope ["self", "name", "store", "battery", "start_level", "reserve", "charge", "settle", "light"] ["self", "name", "store", "battery", "start_level", "reserve", "charge", "settle", "light"] (defScope s_Satellite___init__) := ⟨rfl, rfl, rfl, by decide +kernel, rfl, by decide +kernel, by decide +kernel⟩
abbrev s_Station___init__ : Stmt := inClass (topS 25) 0
theorem sc_Station___init__ : FnScope ["self", "name", "antennas", "turn"] ["self", "name", "antennas", "turn"] (defScope s_Station___init__) := ⟨rfl, rfl, rfl, by decide +kernel, rfl, by decide +kernel, by decide +kernel⟩
abbrev s_Recording___init__ : Stmt := inClass (topS 26) 0
theorem sc_Recording___init__ : FnScope ["self", "name", "satellite", "earliest", "latest", "length", "size", "energy", "worth", "rank", "deadline"] ["self", "name", "satellite", "earliest", "latest", "length", "size", "energy", "worth", "rank", "deadline"] (defScope s_Recording___init__) := ⟨rfl, rfl, rfl, by decide +kernel, rfl, by decide +kernel, by decide +kernel⟩
abbrev s_Pass___init__ : Stmt := inClass (topS 27) 0
theorem sc_Pass___init__ : FnScope ["self", "name", "satellite", "station", "span", "room", "energy", "fee"] ["self", "name", "satellite", "station", "span", "room", "energy", "fee"] (defScope s_Pass___init__) := ⟨rfl, rfl, rfl, by decide +kernel, rfl, by decide +kernel, by decide +kernel⟩
abbrev s_World___init__ : Stmt := inClass (topS 28) 6
theorem sc_World___init__ : FnScope ["self", "text", "horizon", "things", "satellites", "stations", "recordings", "passes"] ["self", "text", "horizon", "things"] (defScope s_World___init__) := ⟨rfl, rfl, rfl, by decide +kernel, rfl, by decide +kernel, by decide +kernel⟩
abbrev s_World_parse : Stmt := inClass (topS 28) 7
theorem sc_World_parse : FnScope ["text", "lines", "horizon"] ["text"] (defScope s_World_parse) := ⟨rfl, rfl, rfl, by decide +kernel, rfl, by decide +kernel, by decide +kernel⟩
theorem SameX.new {a L : Addr} {H H' : Hp} {o : HO} (hL : H L = none) (s : SameX a H H') : SameX a H (L2.upd H' L o) := fun b u n h => by
  rw [upd_ne (ne_of_none h hL)]
  exact s b u n h
theorem SameX.sqT {K : PySem.W.Frag} {H H' : Hp} {a t C dx : Addr} {fs : List (Str × V)} {xs : List V} (s : SameX a H H') (ha : H a = some (.ins C dx fs)) (h : SqT K H t xs) : SqT K H' t xs := by
  rcases h with (h | ⟨u, h⟩) | h
  · exact .inl (.inl (s _ _ (ne_of h ha (fun z => nomatch z)) h))
  · exact .inl (.inr ⟨u, s _ _ (ne_of h ha (fun z => nomatch z)) h⟩)
  · exact .inr h
theorem SameX.sqL {K : PySem.W.Frag} {H H' : Hp} {a t C dx : Addr} {fs : List (Str × V)} {xs : List V} (s : SameX a H H') (ha : H a = some (.ins C dx fs)) (h : SqL K H t xs) : SqL K H' t xs := by
  rcases h with (h | ⟨u, h⟩) | h
  · exact .inl (.inl (s _ _ (ne_of h ha (fun z => nomatch z)) h))
  · exact .inl (.inr ⟨u, s _ _ (ne_of h ha (fun z => nomatch z)) h⟩)
  · exact .inr h
theorem SameX.spans {K : PySem.W.Frag} {H H' : Hp} {a C dx : Addr} {fs : List (Str × V)} {xs : List V} {qs : List (Int × Int)} (s : SameX a H H') (ha : H a = some (.ins C dx fs)) (h : Spans K H xs qs) : Spans K H' xs qs :=
  Paired.mapP h fun _ _ ⟨t, h1, h2⟩ => ⟨t, h1, s.sqT ha h2⟩
/-- an object with a name -/
def Named (K : PySem.W.Frag) (H : Hp) (x : V) (nm : Str) : Prop := ∃ a C dx fs, x = .ref a ∧ H a = some (.ins C dx fs) ∧ Cls K C ∧ NoAttr K C "name" ∧ fs.lookup ("name" : Str) = some (.str nm)
theorem Named.same {K : PySem.W.Frag} {H H' : Hp} {x : V} {nm : Str} (h : Named K H x nm) (s : Same H H') : Named K H' x nm := by
  obtain ⟨a, C, dx, fs, h1, h2, h3⟩ := h
  exact ⟨a, C, dx, fs, h1, s _ _ h2, h3⟩
section
variable {P : Program} {w : World} {K : PySem.W.Frag} {mg : Str → Option Value} {base : Heap}
def spNames (K : PySem.W.Frag) : Sp := fun vs H Q _ => ∃ (l : Addr) (xs : List V) (ns : List Str), vs = [.ref l] ∧ SqL K H l xs ∧ Paired (Named K H) xs ns ∧ ns.length ≤ 100 ∧
  ∀ p H', Same H H' → H p = none → H' p = some (.lst (ns.map V.str)) → Q (.ref p) H'
theorem d_names_of (B : Bt mg) (A : At K mg "names_of" s_names_of ["things"]) : DefOk P w K mg base CX0 1 "names_of" ["things"] (spNames K) := by
  refine A.ok sc_names_of (fun vs H Q E h => ?_) (fun f cdv A outer s H vs Q E hr h => ?_)
  · obtain ⟨l, xs, ns, rfl, _⟩ := h
    rfl
  obtain ⟨l, xs, ns, rfl, hl, hp, hn, q⟩ := h
  have hlen := paired_len hp
  refine ⟨_, pss_one (ps_ret (pe_lc (own := [("thing", 1)])  rfl sc_names_of.nd (pi_list (pv 0)) (blkOk_by (own := [("thing", 1)]) (N := ["things", "thing"]) (sc := defScope s_names_of) (by decide +kernel)) (fun _ _ _ _ _ => pg_name (i := 1) sc_names_of.nd rfl (Or.inl rfl)) (fun _ _ _ _ _ => pts_nil) (fun _ _ _ _ _ => (pe_fldK (K := K) rfl (pv 1) rfl))))
    , ?_⟩
  refine ⟨_, rfl, l, rfl, ⟨_, hl⟩, fun D hD => ?_⟩
  refine lc_list (K := K) (a := l) (xs := xs) (fun i H' => Same H H' ∧ H' D = some (.lst ((ns.take i).map V.str))) ⟨same_new hD _, upd_same⟩ (fun i H' _ h => h.1.seq hl) (fun i x H1 hx hI => ?_) (fun H1 hI => ?_)
  · obtain ⟨hs, hDD⟩ := hI
    obtain ⟨nm, hnm, hx2⟩ := paired_at hp hx
    obtain ⟨a, C, dx, fs, rfl, h2, h3, h4, h5⟩ := hx2
    refine ⟨rfl, _, rfl, a, C, dx, fs, _, rfl, hs _ _ h2, h3, h4, h5, _, hDD, ?_, same_at hD hs _, ?_⟩
    · rw [List.length_map, List.length_take]
      exact small1000 (by omega)
    · rw [upd_same, List.take_add_one, hnm, List.map_append]
      rfl
  · obtain ⟨hs, hDD⟩ := hI
    rw [hlen, List.take_length] at hDD
    exact q D H1 hs hD hDD
end
def satF (s : SatD) (t : Addr) : List (Str × V) := [("name", .str s.name), ("store", .int s.store), ("battery", .int s.battery), ("start_level", .int s.level), ("reserve", .int s.reserve), ("charge", .int s.charge), ("settle", .int s.settle), ("light", .ref t)]
def staF (s : StaD) : List (Str × V) := [("name", .str s.name), ("antennas", .int s.antennas), ("turn", .int s.turn)]
def recF (r : RecD) : List (Str × V) := [("name", .str r.name), ("satellite", .int (r.sat : Int)), ("earliest", .int r.earliest), ("latest", .int r.latest), ("length", .int r.length), ("size", .int r.size), ("energy", .int r.energy), ("worth", .int r.worth), ("rank", .int r.rank), ("deadline", .int r.deadline)]
def pasF (p : PasD) (t : Addr) : List (Str × V) := [("name", .str p.name), ("satellite", .int (p.sat : Int)), ("station", .int (p.sta : Int)), ("span", .ref t), ("room", .int p.room), ("energy", .int p.energy), ("fee", .int p.fee)]
def SatAt (K : PySem.W.Frag) (C : Addr) (H : Hp) (x : V) (s : SatD) : Prop := ∃ a dx t ls, x = .ref a ∧ H a = some (.ins C dx (satF s t)) ∧ SqT K H t ls ∧ Spans K H ls s.light
def StaAt (C : Addr) (H : Hp) (x : V) (s : StaD) : Prop := ∃ a dx, x = .ref a ∧ H a = some (.ins C dx (staF s))
def RecAt (C : Addr) (H : Hp) (x : V) (r : RecD) : Prop := ∃ a dx, x = .ref a ∧ H a = some (.ins C dx (recF r))
def PasAt (K : PySem.W.Frag) (C : Addr) (H : Hp) (x : V) (p : PasD) : Prop := ∃ a dx t, x = .ref a ∧ H a = some (.ins C dx (pasF p t)) ∧ SqT K H t [.int p.first, .int p.fin]
/-- a line stays apart from the other objects: their fields are more or fewer -/
theorem SameX.ins {H H' : Hp} {a b C D dx dy : Addr} {fs gs : List (Str × V)} (s : SameX a H H') (ha : H a = some (.ins C dx fs)) (hb : H b = some (.ins D dy gs)) (n : gs.length ≠ fs.length) : H' b = some (.ins D dy gs) := s b _ (ins_ne hb ha n) hb
/-- what the text tells of the other classes -/
structure TxtW (K : PySem.W.Frag) (mg : Str → Option Value) (CL CS CT CR CP CW aS aR fS fT fR fP : Addr) : Prop where
  L : TxtL K mg CL
  c_Satellite : ClsAt K mg "Satellite" CS
  c_Station : ClsAt K mg "Station" CT
  c_Recording : ClsAt K mg "Recording" CR
  c_Pass : ClsAt K mg "Pass" CP
  c_World : ClsAt K mg "World" CW
  n_Satellite_name : NoAttr K CS "name"
  n_Satellite_store : NoAttr K CS "store"
  n_Satellite_battery : NoAttr K CS "battery"
  n_Satellite_start_level : NoAttr K CS "start_level"
  n_Satellite_reserve : NoAttr K CS "reserve"
  n_Satellite_charge : NoAttr K CS "charge"
  n_Satellite_settle : NoAttr K CS "settle"
  n_Satellite_light : NoAttr K CS "light"
  n_Station_name : NoAttr K CT "name"
  n_Station_antennas : NoAttr K CT "antennas"
  n_Station_turn : NoAttr K CT "turn"
  n_Recording_name : NoAttr K CR "name"
  n_Recording_satellite : NoAttr K CR "satellite"
  n_Recording_earliest : NoAttr K CR "earliest"
  n_Recording_latest : NoAttr K CR "latest"
  n_Recording_length : NoAttr K CR "length"
  n_Recording_size : NoAttr K CR "size"
  n_Recording_energy : NoAttr K CR "energy"
  n_Recording_worth : NoAttr K CR "worth"
  n_Recording_rank : NoAttr K CR "rank"
  n_Recording_deadline : NoAttr K CR "deadline"
  n_Pass_name : NoAttr K CP "name"
  n_Pass_satellite : NoAttr K CP "satellite"
  n_Pass_station : NoAttr K CP "station"
  n_Pass_span : NoAttr K CP "span"
  n_Pass_room : NoAttr K CP "room"
  n_Pass_energy : NoAttr K CP "energy"
  n_Pass_fee : NoAttr K CP "fee"
  n_World_text : NoAttr K CW "text"
  n_World_horizon : NoAttr K CW "horizon"
  n_World_satellites : NoAttr K CW "satellites"
  n_World_stations : NoAttr K CW "stations"
  n_World_recordings : NoAttr K CW "recordings"
  n_World_passes : NoAttr K CW "passes"
  g_SATELLITES : ∃ t, mg "SATELLITES" = some (.int 0 t)
  g_STATIONS : ∃ t, mg "STATIONS" = some (.int 1 t)
  g_RECORDINGS : ∃ t, mg "RECORDINGS" = some (.int 2 t)
  g_PASSES : ∃ t, mg "PASSES" = some (.int 3 t)
  g_MOST_UNITS : ∃ t, mg "MOST_UNITS" = some (.int 1000000 t)
  g_MOST_CHARGE : ∃ t, mg "MOST_CHARGE" = some (.int 1000 t)
  g_MOST_DELAY : ∃ t, mg "MOST_DELAY" = some (.int 60 t)
  g_MOST_ANTENNAS : ∃ t, mg "MOST_ANTENNAS" = some (.int 3 t)
  g_MOST_WORTH : ∃ t, mg "MOST_WORTH" = some (.int 1000 t)
  g_MOST_RANK : ∃ t, mg "MOST_RANK" = some (.int 3 t)
  g_MOST_FEE : ∃ t, mg "MOST_FEE" = some (.int 1000 t)
  g_SORTS : mg "SORTS" = some (.ref aS)
  t_SORTS : ∀ H, SqT K H aS (([("satellite" : Str), "station", "recording", "pass"]).map V.str)
  k_SORTS : ∃ o, K.lookup aS = some o ∧ o.cls = .type "tuple" ∧ o.dict = none
  g_READERS : mg "READERS" = some (.ref aR)
  t_READERS : ∀ H, SqT K H aR [.ref fS, .ref fT, .ref fR, .ref fP]
  r_satellite : mg "read_satellite" = some (.ref fS)
  r_station : mg "read_station" = some (.ref fT)
  r_recording : mg "read_recording" = some (.ref fR)
  r_pass : mg "read_pass" = some (.ref fP)
  rdW : ClX.CRead K CW (.type "type")
  v_MOST_HORIZON : ∃ t, ClX.CVal K CW (.type "type") "MOST_HORIZON" (.int 500) (.int 500 t)
  v_MOST_SATELLITES : ∃ t, ClX.CVal K CW (.type "type") "MOST_SATELLITES" (.int 3) (.int 3 t)
  v_MOST_STATIONS : ∃ t, ClX.CVal K CW (.type "type") "MOST_STATIONS" (.int 3) (.int 3 t)
  v_MOST_RECORDINGS : ∃ t, ClX.CVal K CW (.type "type") "MOST_RECORDINGS" (.int 10) (.int 10 t)
  v_MOST_PASSES : ∃ t, ClX.CVal K CW (.type "type") "MOST_PASSES" (.int 10) (.int 10 t)
  v_MOST_SHIFT : ∃ t, ClX.CVal K CW (.type "type") "MOST_SHIFT" (.int 20) (.int 20 t)
section
variable {P : Program} {w : World} {K : PySem.W.Frag} {mg : Str → Option Value} {base : Heap} {CL CS CT CR CP CW aS aR fS fT fR fP : Addr}
theorem TxtW.c_Line (T : TxtW K mg CL CS CT CR CP CW aS aR fS fT fR fP) : ClsAt K mg "Line" CL := T.L.c_Line
def spI_Satellite (C : Addr) : Sp := fun vs H Q _ => ∃ (x dx : Addr) (v0 v1 v2 v3 v4 v5 v6 v7 : V), vs = [.ref x, v0, v1, v2, v3, v4, v5, v6, v7] ∧ H x = some (.ins C dx []) ∧
  Q .non (upd H x (.ins C dx [("name", v0), ("store", v1), ("battery", v2), ("start_level", v3), ("reserve", v4), ("charge", v5), ("settle", v6), ("light", v7)]))
theorem dI_Satellite (T : TxtW K mg CL CS CT CR CP CW aS aR fS fT fR fP) (A : MAt K CS "__init__" "Satellite.__init__" s_Satellite___init__ ["self", "name", "store", "battery", "start_level", "reserve", "charge", "settle", "light"]) : MDef P w K mg base CX0 1 CS "__init__" ["self", "name", "store", "battery", "start_level", "reserve", "charge", "settle", "light"] [] (spI_Satellite CS) := by
  refine A.ok sc_Satellite___init__ (fun vs H Q E h => ?_) (fun f cdv A outer s H vs Q E hr h => ?_)
  · obtain ⟨x, dx, v0, v1, v2, v3, v4, v5, v6, v7, rfl, _⟩ := h
    rfl
  obtain ⟨x, dx, v0, v1, v2, v3, v4, v5, v6, v7, rfl, hx, q⟩ := h
  refine ⟨_, pss_cons (ps_fld (pv 0) (pv 1) rfl)
  (pss_cons (ps_fld (pv 0) (pv 2) rfl)
  (pss_cons (ps_fld (pv 0) (pv 3) rfl)
  (pss_cons (ps_fld (pv 0) (pv 4) rfl)
  (pss_cons (ps_fld (pv 0) (pv 5) rfl)
  (pss_cons (ps_fld (pv 0) (pv 6) rfl)
  (pss_cons (ps_fld (pv 0) (pv 7) rfl)
  (pss_one (ps_fld (pv 0) (pv 8) rfl)))))))), ?_⟩
  refine ⟨_, rfl, _, rfl, x, CS, dx, _, rfl, hx, T.c_Satellite.cl, T.n_Satellite_name, (by show 0 < 1000; decide), ?_⟩
  rw [put_nil]
  refine ⟨_, rfl, _, rfl, x, CS, dx, _, rfl, upd_same, T.c_Satellite.cl, T.n_Satellite_store, (by show 1 < 1000; decide), ?_⟩
  rw [upd_upd]
  rw [put_miss (by decide +kernel)]
  rw [put_nil]
  refine ⟨_, rfl, _, rfl, x, CS, dx, _, rfl, upd_same, T.c_Satellite.cl, T.n_Satellite_battery, (by show 2 < 1000; decide), ?_⟩
  rw [upd_upd]
  rw [put_miss (by decide +kernel)]
  rw [put_miss (by decide +kernel)]
  rw [put_nil]
  refine ⟨_, rfl, _, rfl, x, CS, dx, _, rfl, upd_same, T.c_Satellite.cl, T.n_Satellite_start_level, (by show 3 < 1000; decide), ?_⟩
  rw [upd_upd]
  rw [put_miss (by decide +kernel)]
  rw [put_miss (by decide +kernel)]
  rw [put_miss (by decide +kernel)]
  rw [put_nil]
  refine ⟨_, rfl, _, rfl, x, CS, dx, _, rfl, upd_same, T.c_Satellite.cl, T.n_Satellite_reserve, (by show 4 < 1000; decide), ?_⟩
  rw [upd_upd]
  rw [put_miss (by decide +kernel)]
  rw [put_miss (by decide +kernel)]
  rw [put_miss (by decide +kernel)]
  rw [put_miss (by decide +kernel)]
  rw [put_nil]
  refine ⟨_, rfl, _, rfl, x, CS, dx, _, rfl, upd_same, T.c_Satellite.cl, T.n_Satellite_charge, (by show 5 < 1000; decide), ?_⟩
  rw [upd_upd]
  rw [put_miss (by decide +kernel)]
  rw [put_miss (by decide +kernel)]
  rw [put_miss (by decide +kernel)]
  rw [put_miss (by decide +kernel)]
  rw [put_miss (by decide +kernel)]
  rw [put_nil]
  refine ⟨_, rfl, _, rfl, x, CS, dx, _, rfl, upd_same, T.c_Satellite.cl, T.n_Satellite_settle, (by show 6 < 1000; decide), ?_⟩
  rw [upd_upd]
  rw [put_miss (by decide +kernel)]
  rw [put_miss (by decide +kernel)]
  rw [put_miss (by decide +kernel)]
  rw [put_miss (by decide +kernel)]
  rw [put_miss (by decide +kernel)]
  rw [put_miss (by decide +kernel)]
  rw [put_nil]
  refine ⟨_, rfl, _, rfl, x, CS, dx, _, rfl, upd_same, T.c_Satellite.cl, T.n_Satellite_light, (by show 7 < 1000; decide), ?_⟩
  rw [upd_upd]
  rw [put_miss (by decide +kernel)]
  rw [put_miss (by decide +kernel)]
  rw [put_miss (by decide +kernel)]
  rw [put_miss (by decide +kernel)]
  rw [put_miss (by decide +kernel)]
  rw [put_miss (by decide +kernel)]
  rw [put_miss (by decide +kernel)]
  rw [put_nil]
  exact q
def spI_Station (C : Addr) : Sp := fun vs H Q _ => ∃ (x dx : Addr) (v0 v1 v2 : V), vs = [.ref x, v0, v1, v2] ∧ H x = some (.ins C dx []) ∧
  Q .non (upd H x (.ins C dx [("name", v0), ("antennas", v1), ("turn", v2)]))
theorem dI_Station (T : TxtW K mg CL CS CT CR CP CW aS aR fS fT fR fP) (A : MAt K CT "__init__" "Station.__init__" s_Station___init__ ["self", "name", "antennas", "turn"]) : MDef P w K mg base CX0 1 CT "__init__" ["self", "name", "antennas", "turn"] [] (spI_Station CT) := by
  refine A.ok sc_Station___init__ (fun vs H Q E h => ?_) (fun f cdv A outer s H vs Q E hr h => ?_)
  · obtain ⟨x, dx, v0, v1, v2, rfl, _⟩ := h
    rfl
  obtain ⟨x, dx, v0, v1, v2, rfl, hx, q⟩ := h
  refine ⟨_, pss_cons (ps_fld (pv 0) (pv 1) rfl)
  (pss_cons (ps_fld (pv 0) (pv 2) rfl)
  (pss_one (ps_fld (pv 0) (pv 3) rfl))), ?_⟩
  refine ⟨_, rfl, _, rfl, x, CT, dx, _, rfl, hx, T.c_Station.cl, T.n_Station_name, (by show 0 < 1000; decide), ?_⟩
  rw [put_nil]
  refine ⟨_, rfl, _, rfl, x, CT, dx, _, rfl, upd_same, T.c_Station.cl, T.n_Station_antennas, (by show 1 < 1000; decide), ?_⟩
  rw [upd_upd]
  rw [put_miss (by decide +kernel)]
  rw [put_nil]
  refine ⟨_, rfl, _, rfl, x, CT, dx, _, rfl, upd_same, T.c_Station.cl, T.n_Station_turn, (by show 2 < 1000; decide), ?_⟩
  rw [upd_upd]
  rw [put_miss (by decide +kernel)]
  rw [put_miss (by decide +kernel)]
  rw [put_nil]
  exact q
def spI_Recording (C : Addr) : Sp := fun vs H Q _ => ∃ (x dx : Addr) (v0 v1 v2 v3 v4 v5 v6 v7 v8 v9 : V), vs = [.ref x, v0, v1, v2, v3, v4, v5, v6, v7, v8, v9] ∧ H x = some (.ins C dx []) ∧
  Q .non (upd H x (.ins C dx [("name", v0), ("satellite", v1), ("earliest", v2), ("latest", v3), ("length", v4), ("size", v5), ("energy", v6), ("worth", v7), ("rank", v8), ("deadline", v9)]))
theorem dI_Recording (T : TxtW K mg CL CS CT CR CP CW aS aR fS fT fR fP) (A : MAt K CR "__init__" "Recording.__init__" s_Recording___init__ ["self", "name", "satellite", "earliest", "latest", "length", "size", "energy", "worth", "rank", "deadline"]) : MDef P w K mg base CX0 1 CR "__init__" ["self", "name", "satellite", "earliest", "latest", "length", "size", "energy", "worth", "rank", "deadline"] [] (spI_Recording CR) := by
  refine A.ok sc_Recording___init__ (fun vs H Q E h => ?_) (fun f cdv A outer s H vs Q E hr h => ?_)
  · obtain ⟨x, dx, v0, v1, v2, v3, v4, v5, v6, v7, v8, v9, rfl, _⟩ := h
    rfl
  obtain ⟨x, dx, v0, v1, v2, v3, v4, v5, v6, v7, v8, v9, rfl, hx, q⟩ := h
  refine ⟨_, pss_cons (ps_fld (pv 0) (pv 1) rfl)
  (pss_cons (ps_fld (pv 0) (pv 2) rfl)
  (pss_cons (ps_fld (pv 0) (pv 3) rfl)
  (pss_cons (ps_fld (pv 0) (pv 4) rfl)
  (pss_cons (ps_fld (pv 0) (pv 5) rfl)
  (pss_cons (ps_fld (pv 0) (pv 6) rfl)
  (pss_cons (ps_fld (pv 0) (pv 7) rfl)
  (pss_cons (ps_fld (pv 0) (pv 8) rfl)
  (pss_cons (ps_fld (pv 0) (pv 9) rfl)
  (pss_one (ps_fld (pv 0) (pv 10) rfl)))))))))), ?_⟩
  refine ⟨_, rfl, _, rfl, x, CR, dx, _, rfl, hx, T.c_Recording.cl, T.n_Recording_name, (by show 0 < 1000; decide), ?_⟩
  rw [put_nil]
  refine ⟨_, rfl, _, rfl, x, CR, dx, _, rfl, upd_same, T.c_Recording.cl, T.n_Recording_satellite, (by show 1 < 1000; decide), ?_⟩
  rw [upd_upd]
  rw [put_miss (by decide +kernel)]
  rw [put_nil]
  refine ⟨_, rfl, _, rfl, x, CR, dx, _, rfl, upd_same, T.c_Recording.cl, T.n_Recording_earliest, (by show 2 < 1000; decide), ?_⟩
  rw [upd_upd]
  rw [put_miss (by decide +kernel)]
  rw [put_miss (by decide +kernel)]
  rw [put_nil]
  refine ⟨_, rfl, _, rfl, x, CR, dx, _, rfl, upd_same, T.c_Recording.cl, T.n_Recording_latest, (by show 3 < 1000; decide), ?_⟩
  rw [upd_upd]
  rw [put_miss (by decide +kernel)]
  rw [put_miss (by decide +kernel)]
  rw [put_miss (by decide +kernel)]
  rw [put_nil]
  refine ⟨_, rfl, _, rfl, x, CR, dx, _, rfl, upd_same, T.c_Recording.cl, T.n_Recording_length, (by show 4 < 1000; decide), ?_⟩
  rw [upd_upd]
  rw [put_miss (by decide +kernel)]
  rw [put_miss (by decide +kernel)]
  rw [put_miss (by decide +kernel)]
  rw [put_miss (by decide +kernel)]
  rw [put_nil]
  refine ⟨_, rfl, _, rfl, x, CR, dx, _, rfl, upd_same, T.c_Recording.cl, T.n_Recording_size, (by show 5 < 1000; decide), ?_⟩
  rw [upd_upd]
  rw [put_miss (by decide +kernel)]
  rw [put_miss (by decide +kernel)]
  rw [put_miss (by decide +kernel)]
  rw [put_miss (by decide +kernel)]
  rw [put_miss (by decide +kernel)]
  rw [put_nil]
  refine ⟨_, rfl, _, rfl, x, CR, dx, _, rfl, upd_same, T.c_Recording.cl, T.n_Recording_energy, (by show 6 < 1000; decide), ?_⟩
  rw [upd_upd]
  rw [put_miss (by decide +kernel)]
  rw [put_miss (by decide +kernel)]
  rw [put_miss (by decide +kernel)]
  rw [put_miss (by decide +kernel)]
  rw [put_miss (by decide +kernel)]
  rw [put_miss (by decide +kernel)]
  rw [put_nil]
  refine ⟨_, rfl, _, rfl, x, CR, dx, _, rfl, upd_same, T.c_Recording.cl, T.n_Recording_worth, (by show 7 < 1000; decide), ?_⟩
  rw [upd_upd]
  rw [put_miss (by decide +kernel)]
  rw [put_miss (by decide +kernel)]
  rw [put_miss (by decide +kernel)]
  rw [put_miss (by decide +kernel)]
  rw [put_miss (by decide +kernel)]
  rw [put_miss (by decide +kernel)]
  rw [put_miss (by decide +kernel)]
  rw [put_nil]
  refine ⟨_, rfl, _, rfl, x, CR, dx, _, rfl, upd_same, T.c_Recording.cl, T.n_Recording_rank, (by show 8 < 1000; decide), ?_⟩
  rw [upd_upd]
  rw [put_miss (by decide +kernel)]
  rw [put_miss (by decide +kernel)]
  rw [put_miss (by decide +kernel)]
  rw [put_miss (by decide +kernel)]
  rw [put_miss (by decide +kernel)]
  rw [put_miss (by decide +kernel)]
  rw [put_miss (by decide +kernel)]
  rw [put_miss (by decide +kernel)]
  rw [put_nil]
  refine ⟨_, rfl, _, rfl, x, CR, dx, _, rfl, upd_same, T.c_Recording.cl, T.n_Recording_deadline, (by show 9 < 1000; decide), ?_⟩
  rw [upd_upd]
  rw [put_miss (by decide +kernel)]
  rw [put_miss (by decide +kernel)]
  rw [put_miss (by decide +kernel)]
  rw [put_miss (by decide +kernel)]
  rw [put_miss (by decide +kernel)]
  rw [put_miss (by decide +kernel)]
  rw [put_miss (by decide +kernel)]
  rw [put_miss (by decide +kernel)]
  rw [put_miss (by decide +kernel)]
  rw [put_nil]
  exact q
def spI_Pass (C : Addr) : Sp := fun vs H Q _ => ∃ (x dx : Addr) (v0 v1 v2 v3 v4 v5 v6 : V), vs = [.ref x, v0, v1, v2, v3, v4, v5, v6] ∧ H x = some (.ins C dx []) ∧
  Q .non (upd H x (.ins C dx [("name", v0), ("satellite", v1), ("station", v2), ("span", v3), ("room", v4), ("energy", v5), ("fee", v6)]))
theorem dI_Pass (T : TxtW K mg CL CS CT CR CP CW aS aR fS fT fR fP) (A : MAt K CP "__init__" "Pass.__init__" s_Pass___init__ ["self", "name", "satellite", "station", "span", "room", "energy", "fee"]) : MDef P w K mg base CX0 1 CP "__init__" ["self", "name", "satellite", "station", "span", "room", "energy", "fee"] [] (spI_Pass CP) := by
  refine A.ok sc_Pass___init__ (fun vs H Q E h => ?_) (fun f cdv A outer s H vs Q E hr h => ?_)
  · obtain ⟨x, dx, v0, v1, v2, v3, v4, v5, v6, rfl, _⟩ := h
    rfl
  obtain ⟨x, dx, v0, v1, v2, v3, v4, v5, v6, rfl, hx, q⟩ := h
  refine ⟨_, pss_cons (ps_fld (pv 0) (pv 1) rfl)
  (pss_cons (ps_fld (pv 0) (pv 2) rfl)
  (pss_cons (ps_fld (pv 0) (pv 3) rfl)
  (pss_cons (ps_fld (pv 0) (pv 4) rfl)
  (pss_cons (ps_fld (pv 0) (pv 5) rfl)
  (pss_cons (ps_fld (pv 0) (pv 6) rfl)
  (pss_one (ps_fld (pv 0) (pv 7) rfl))))))), ?_⟩
  refine ⟨_, rfl, _, rfl, x, CP, dx, _, rfl, hx, T.c_Pass.cl, T.n_Pass_name, (by show 0 < 1000; decide), ?_⟩
  rw [put_nil]
  refine ⟨_, rfl, _, rfl, x, CP, dx, _, rfl, upd_same, T.c_Pass.cl, T.n_Pass_satellite, (by show 1 < 1000; decide), ?_⟩
  rw [upd_upd]
  rw [put_miss (by decide +kernel)]
  rw [put_nil]
  refine ⟨_, rfl, _, rfl, x, CP, dx, _, rfl, upd_same, T.c_Pass.cl, T.n_Pass_station, (by show 2 < 1000; decide), ?_⟩
  rw [upd_upd]
  rw [put_miss (by decide +kernel)]
  rw [put_miss (by decide +kernel)]
  rw [put_nil]
  refine ⟨_, rfl, _, rfl, x, CP, dx, _, rfl, upd_same, T.c_Pass.cl, T.n_Pass_span, (by show 3 < 1000; decide), ?_⟩
  rw [upd_upd]
  rw [put_miss (by decide +kernel)]
  rw [put_miss (by decide +kernel)]
  rw [put_miss (by decide +kernel)]
  rw [put_nil]
  refine ⟨_, rfl, _, rfl, x, CP, dx, _, rfl, upd_same, T.c_Pass.cl, T.n_Pass_room, (by show 4 < 1000; decide), ?_⟩
  rw [upd_upd]
  rw [put_miss (by decide +kernel)]
  rw [put_miss (by decide +kernel)]
  rw [put_miss (by decide +kernel)]
  rw [put_miss (by decide +kernel)]
  rw [put_nil]
  refine ⟨_, rfl, _, rfl, x, CP, dx, _, rfl, upd_same, T.c_Pass.cl, T.n_Pass_energy, (by show 5 < 1000; decide), ?_⟩
  rw [upd_upd]
  rw [put_miss (by decide +kernel)]
  rw [put_miss (by decide +kernel)]
  rw [put_miss (by decide +kernel)]
  rw [put_miss (by decide +kernel)]
  rw [put_miss (by decide +kernel)]
  rw [put_nil]
  refine ⟨_, rfl, _, rfl, x, CP, dx, _, rfl, upd_same, T.c_Pass.cl, T.n_Pass_fee, (by show 6 < 1000; decide), ?_⟩
  rw [upd_upd]
  rw [put_miss (by decide +kernel)]
  rw [put_miss (by decide +kernel)]
  rw [put_miss (by decide +kernel)]
  rw [put_miss (by decide +kernel)]
  rw [put_miss (by decide +kernel)]
  rw [put_miss (by decide +kernel)]
  rw [put_nil]
  exact q
/-- the names of a sort's things -/
def NamesAt (K : PySem.W.Frag) (H : Hp) (th : Addr) (i : Nat) (ns : List Str) : Prop := ∃ (ls : List Addr) (l : Addr) (xs : List V), SqT K H th (ls.map V.ref) ∧ ls[i]? = some l ∧ SqL K H l xs ∧ Paired (Named K H) xs ns ∧ ns.length ≤ 100
theorem NamesAt.same {K : PySem.W.Frag} {H H' : Hp} {th : Addr} {i : Nat} {ns : List Str} (h : NamesAt K H th i ns) (s : Same H H') : NamesAt K H' th i ns := by
  obtain ⟨ls, l, xs, h1, h2, h3, h4, h5⟩ := h
  exact ⟨ls, l, xs, Same.tup s h1, h2, s.seq h3, Paired.mapP h4 fun _ _ z => z.same s, h5⟩
/-- a line is none of the named objects: it has no name -/
theorem SameX.named {K : PySem.W.Frag} {H H' : Hp} {a C dx : Addr} {fs : List (Str × V)} {x : V} {nm : Str} (s : SameX a H H') (ha : H a = some (.ins C dx fs)) (hn : fs.lookup ("name" : Str) = none) (h : Named K H x nm) : Named K H' x nm := by
  obtain ⟨b, D, dy, gs, h1, h2, h3, h4, h5⟩ := h
  refine ⟨b, D, dy, gs, h1, s _ _ (fun z => ?_) h2, h3, h4, h5⟩
  rw [z, ha] at h2
  injection h2 with h2
  injection h2 with z1 z2 z3
  rw [← z3, hn] at h5
  cases h5
theorem SameX.free {a x : Addr} {H H' : Hp} {o : HO} (s : SameX a H H') (ha : H' a = some o) (h : H' x = none) : H x = none := by
  cases q : H x with
  | none => rfl
  | some u =>
    by_cases e : x = a
    · rw [e, ha] at h; cases h
    · rw [s x u e q] at h; cases h
theorem LnAt.there {C : Addr} {H : Hp} {a : Addr} {ws : List Str} {r : Nat} (h : LnAt C H a ws r) : ∃ o, H a = some o := by
  obtain ⟨dx, n, wl, c, h1, h2⟩ := h.ex
  exact ⟨_, h1⟩
theorem same_made {H : Hp} {x dx : Addr} {o u v : HO} (hx : H x = none) (hd : H dx = none) : Same H (upd (upd (upd H dx o) x u) x v) := fun b z e => by
  have n1 : b ≠ x := ne_of_none e hx
  rw [upd_ne n1, upd_ne n1, upd_ne (ne_of_none e hd)]
  exact e
end
end DP
namespace DP
open PySem PySem.Spec PyProof.Rows L2
section
variable {K : PySem.W.Frag} {CL CS CT CR CP : Addr} {H H' : Hp} {a L : Addr} {ws : List Str} {r : Nat} {x : V} {ys : List V} {o : HO}
theorem SatAt.same {s : SatD} (h : SatAt K CS H x s) (z : Same H H') : SatAt K CS H' x s := by
  obtain ⟨b, dx, t, ls, h1, h2, h3, h4⟩ := h
  exact ⟨b, dx, t, ls, h1, z _ _ h2, Same.tup z h3, h4.same z⟩
theorem StaAt.same {s : StaD} (h : StaAt CT H x s) (z : Same H H') : StaAt CT H' x s := by
  obtain ⟨b, dx, h1, h2⟩ := h
  exact ⟨b, dx, h1, z _ _ h2⟩
theorem RecAt.same {s : RecD} (h : RecAt CR H x s) (z : Same H H') : RecAt CR H' x s := by
  obtain ⟨b, dx, h1, h2⟩ := h
  exact ⟨b, dx, h1, z _ _ h2⟩
theorem PasAt.same {s : PasD} (h : PasAt K CP H x s) (z : Same H H') : PasAt K CP H' x s := by
  obtain ⟨b, dx, t, h1, h2, h3⟩ := h
  exact ⟨b, dx, t, h1, z _ _ h2, Same.tup z h3⟩
theorem SatAt.sx {s : SatD} (h : SatAt K CS H x s) (hL : LnAt CL H a ws r) (z : SameX a H H') : SatAt K CS H' x s := by
  obtain ⟨dx', n, wl, c, g1, g2⟩ := hL.ex
  obtain ⟨b, dx, t, ls, h1, h2, h3, h4⟩ := h
  exact ⟨b, dx, t, ls, h1, z.ins g1 h2 (by show 8 ≠ 4; decide), z.sqT g1 h3, z.spans g1 h4⟩
theorem StaAt.sx {s : StaD} (h : StaAt CT H x s) (hL : LnAt CL H a ws r) (z : SameX a H H') : StaAt CT H' x s := by
  obtain ⟨dx', n, wl, c, g1, g2⟩ := hL.ex
  obtain ⟨b, dx, h1, h2⟩ := h
  exact ⟨b, dx, h1, z.ins g1 h2 (by show 3 ≠ 4; decide)⟩
theorem RecAt.sx {s : RecD} (h : RecAt CR H x s) (hL : LnAt CL H a ws r) (z : SameX a H H') : RecAt CR H' x s := by
  obtain ⟨dx', n, wl, c, g1, g2⟩ := hL.ex
  obtain ⟨b, dx, h1, h2⟩ := h
  exact ⟨b, dx, h1, z.ins g1 h2 (by show 10 ≠ 4; decide)⟩
theorem PasAt.sx {s : PasD} (h : PasAt K CP H x s) (hL : LnAt CL H a ws r) (z : SameX a H H') : PasAt K CP H' x s := by
  obtain ⟨dx', n, wl, c, g1, g2⟩ := hL.ex
  obtain ⟨b, dx, t, h1, h2, h3⟩ := h
  exact ⟨b, dx, t, h1, z.ins g1 h2 (by show 7 ≠ 4; decide), z.sqT g1 h3⟩
theorem SatAt.up {s : SatD} (h : SatAt K CS H x s) (e : H L = some (.lst ys)) : SatAt K CS (L2.upd H L o) x s := by
  obtain ⟨b, dx, t, ls, h1, h2, h3, h4⟩ := h
  exact ⟨b, dx, t, ls, h1, by rw [upd_ne (ne_of h2 e (fun z => nomatch z))]; exact h2, sqT_upd h3 e, h4.upd e⟩
theorem StaAt.up {s : StaD} (h : StaAt CT H x s) (e : H L = some (.lst ys)) : StaAt CT (L2.upd H L o) x s := by
  obtain ⟨b, dx, h1, h2⟩ := h
  exact ⟨b, dx, h1, by rw [upd_ne (ne_of h2 e (fun z => nomatch z))]; exact h2⟩
theorem RecAt.up {s : RecD} (h : RecAt CR H x s) (e : H L = some (.lst ys)) : RecAt CR (L2.upd H L o) x s := by
  obtain ⟨b, dx, h1, h2⟩ := h
  exact ⟨b, dx, h1, by rw [upd_ne (ne_of h2 e (fun z => nomatch z))]; exact h2⟩
theorem PasAt.up {s : PasD} (h : PasAt K CP H x s) (e : H L = some (.lst ys)) : PasAt K CP (L2.upd H L o) x s := by
  obtain ⟨b, dx, t, h1, h2, h3⟩ := h
  exact ⟨b, dx, t, h1, by rw [upd_ne (ne_of h2 e (fun z => nomatch z))]; exact h2, sqT_upd h3 e⟩
/-- a line stays where a list of objects is changed -/
theorem LnAt.up (h : LnAt CL H a ws r) (hne : ws ≠ []) (e : H L = some (.lst ys)) (hr : ∀ y ∈ ys, ∃ t, y = V.ref t) : LnAt CL (L2.upd H L o) a ws r := by
  obtain ⟨dx, n, wl, c, h1, h2⟩ := h.ex
  refine ⟨⟨dx, n, wl, c, by rw [upd_ne (ne_of h1 e (fun z => nomatch z))]; exact h1, ?_⟩, h.ok⟩
  rw [upd_ne]
  · exact h2
  · intro z
    rw [z, e] at h2
    have e2 : ys = ws.map V.str := HO.lst.inj (Option.some.inj h2)
    cases ws with
    | nil => exact hne rfl
    | cons w wr =>
      obtain ⟨t, ht⟩ := hr (.str w) (by rw [e2]; exact List.mem_cons_self)
      cases ht
theorem LnAt.sx {b : Addr} {vs : List Str} {q : Nat} (h : LnAt CL H a ws r) (hL : LnAt CL H b vs q) (n : a ≠ b) (z : SameX b H H') : LnAt CL H' a ws r := by
  obtain ⟨dx', n', wl', c', g1, g2⟩ := hL.ex
  obtain ⟨dx, m, wl, c, h1, h2⟩ := h.ex
  exact ⟨⟨dx, m, wl, c, z _ _ n h1, z _ _ (ne_of h2 g1 (fun z => nomatch z)) h2⟩, h.ok⟩
end
/-- the four lists of a world's things as far as they are read -/
structure Thg (K : PySem.W.Frag) (CS CT CR CP : Addr) (H : Hp) (th l0 l1 l2 l3 : Addr) (S : List SatD) (T : List StaD) (R : List RecD) (P : List PasD) : Prop where
  tup : H th = some (.tup [.ref l0, .ref l1, .ref l2, .ref l3])
  d01 : l0 ≠ l1
  d02 : l0 ≠ l2
  d03 : l0 ≠ l3
  d12 : l1 ≠ l2
  d13 : l1 ≠ l3
  d23 : l2 ≠ l3
  sats : ∃ xs, H l0 = some (.lst xs) ∧ Paired (SatAt K CS H) xs S
  stas : ∃ xs, H l1 = some (.lst xs) ∧ Paired (StaAt CT H) xs T
  recs : ∃ xs, H l2 = some (.lst xs) ∧ Paired (RecAt CR H) xs R
  pass : ∃ xs, H l3 = some (.lst xs) ∧ Paired (PasAt K CP H) xs P
section
variable {K : PySem.W.Frag} {CL CS CT CR CP : Addr} {H H' : Hp} {a th l0 l1 l2 l3 : Addr} {ws : List Str} {r : Nat} {S : List SatD} {T : List StaD} {R : List RecD} {P : List PasD}
theorem Thg.same (h : Thg K CS CT CR CP H th l0 l1 l2 l3 S T R P) (z : Same H H') : Thg K CS CT CR CP H' th l0 l1 l2 l3 S T R P := by
  obtain ⟨x0, a0, b0⟩ := h.sats
  obtain ⟨x1, a1, b1⟩ := h.stas
  obtain ⟨x2, a2, b2⟩ := h.recs
  obtain ⟨x3, a3, b3⟩ := h.pass
  exact ⟨z _ _ h.tup, h.d01, h.d02, h.d03, h.d12, h.d13, h.d23, ⟨x0, z _ _ a0, Paired.mapP b0 fun _ _ y => y.same z⟩, ⟨x1, z _ _ a1, Paired.mapP b1 fun _ _ y => y.same z⟩, ⟨x2, z _ _ a2, Paired.mapP b2 fun _ _ y => y.same z⟩, ⟨x3, z _ _ a3, Paired.mapP b3 fun _ _ y => y.same z⟩⟩
theorem Thg.sx (h : Thg K CS CT CR CP H th l0 l1 l2 l3 S T R P) (hL : LnAt CL H a ws r) (z : SameX a H H') : Thg K CS CT CR CP H' th l0 l1 l2 l3 S T R P := by
  obtain ⟨dx', n', wl', c', g1, g2⟩ := hL.ex
  obtain ⟨x0, a0, b0⟩ := h.sats
  obtain ⟨x1, a1, b1⟩ := h.stas
  obtain ⟨x2, a2, b2⟩ := h.recs
  obtain ⟨x3, a3, b3⟩ := h.pass
  exact ⟨z _ _ (ne_of h.tup g1 (fun z => nomatch z)) h.tup, h.d01, h.d02, h.d03, h.d12, h.d13, h.d23, ⟨x0, z _ _ (ne_of a0 g1 (fun z => nomatch z)) a0, Paired.mapP b0 fun _ _ y => y.sx hL z⟩, ⟨x1, z _ _ (ne_of a1 g1 (fun z => nomatch z)) a1, Paired.mapP b1 fun _ _ y => y.sx hL z⟩,
    ⟨x2, z _ _ (ne_of a2 g1 (fun z => nomatch z)) a2, Paired.mapP b2 fun _ _ y => y.sx hL z⟩, ⟨x3, z _ _ (ne_of a3 g1 (fun z => nomatch z)) a3, Paired.mapP b3 fun _ _ y => y.sx hL z⟩⟩
end
theorem paired_map {α β γ : Type} {F : α → β → Prop} {G : α → γ → Prop} {f : β → γ} (h : ∀ a b, F a b → G a (f b)) : ∀ {xs : List α} {ys : List β}, Paired F xs ys → Paired G xs (ys.map f)
  | _, _, .nil => .nil
  | _, _, .cons a t => .cons (h _ _ a) (paired_map h t)
section
variable {K : PySem.W.Frag} {mg : Str → Option Value} {CL CS CT CR CP CW aS aR fS fT fR fP : Addr} {H : Hp} {th l0 l1 l2 l3 : Addr} {S : List SatD} {T : List StaD} {R : List RecD} {P : List PasD}
theorem Thg.list (h : Thg K CS CT CR CP H th l0 l1 l2 l3 S T R P) : SqT K H th (([l0, l1, l2, l3]).map V.ref) := SqT.of h.tup
theorem Thg.n0 (X : TxtW K mg CL CS CT CR CP CW aS aR fS fT fR fP) (h : Thg K CS CT CR CP H th l0 l1 l2 l3 S T R P) (hl : S.length ≤ 100) : NamesAt K H th 0 (S.map (·.name)) := by
  obtain ⟨xs, a, b⟩ := h.sats
  exact ⟨[l0, l1, l2, l3], l0, xs, h.list, rfl, SqL.of a, paired_map (fun _ _ ⟨b, dx, t, ls, h1, h2, _⟩ => ⟨b, CS, dx, _, h1, h2, X.c_Satellite.cl, X.n_Satellite_name, lk_hit⟩) b, by rw [List.length_map]; exact hl⟩
theorem Thg.n1 (X : TxtW K mg CL CS CT CR CP CW aS aR fS fT fR fP) (h : Thg K CS CT CR CP H th l0 l1 l2 l3 S T R P) (hl : T.length ≤ 100) : NamesAt K H th 1 (T.map (·.name)) := by
  obtain ⟨xs, a, b⟩ := h.stas
  exact ⟨[l0, l1, l2, l3], l1, xs, h.list, rfl, SqL.of a, paired_map (fun _ _ ⟨b, dx, h1, h2⟩ => ⟨b, CT, dx, _, h1, h2, X.c_Station.cl, X.n_Station_name, lk_hit⟩) b, by rw [List.length_map]; exact hl⟩
end
end DP
namespace DP
open PySem PySem.Spec PyProof.Rows L2
theorem take_snoc {α : Type} {l : List α} {i : Nat} {x : α} (h : l[i]? = some x) : l.take (i + 1) = l.take i ++ [x] := by
  rw [List.take_add_one, h]
  rfl
def sortsL : List Str := ["satellite", "station", "recording", "pass"]
section
variable {P : Program} {w : World} {K : PySem.W.Frag} {mg : Str → Option Value} {base : Heap} {CL CS CT CR CP CW aS aR fS fT fR fP : Addr}
def mostK : List Int := [3, 3, 10, 10]
def spMost : Sp := fun vs H Q _ => ∃ (i : Nat) (m : Int), vs = [.int (i : Int)] ∧ mostK[i]? = some m ∧ ∀ H', Same H H' → Q (.int m) H'
theorem d_most_things (T : TxtW K mg CL CS CT CR CP CW aS aR fS fT fR fP) (A : At K mg "most_things" s_most_things ["sort"]) : DefOk P w K mg base CX0 1 "most_things" ["sort"] spMost := by
  have B := T.L.B
  refine A.ok sc_most_things (fun vs H Q E h => ?_) (fun f cdv A outer s H vs Q E hr h => ?_)
  · obtain ⟨i, m, rfl, _⟩ := h
    rfl
  obtain ⟨i, m, rfl, hi, q⟩ := h
  refine ⟨_, pss_cons (ps_set (i := 1) sc_most_things.nd rfl (Or.inl rfl) (pe_tup (pa_cons (ClX.pe_cval (pe_ga T.c_World.gC) rfl) (pa_cons (ClX.pe_cval (pe_ga T.c_World.gC) rfl) (pa_cons (ClX.pe_cval (pe_ga T.c_World.gC) rfl) (pa_cons (ClX.pe_cval (pe_ga T.c_World.gC) rfl) pa_nil))))))
  (pss_one (ps_ret (pe_ix ix_tup (pv 1) (pv 0) (fun _ _ => rfl))))
    , ?_⟩
  obtain ⟨k1, h1⟩ := T.v_MOST_SATELLITES
  obtain ⟨k2, h2⟩ := T.v_MOST_STATIONS
  obtain ⟨k3, h3⟩ := T.v_MOST_RECORDINGS
  obtain ⟨k4, h4⟩ := T.v_MOST_PASSES
  refine ⟨CW, _, _, _, rfl, T.rdW, h1, CW, _, _, _, rfl, T.rdW, h2, CW, _, _, _, rfl, T.rdW, h3, CW, _, _, _, rfl, T.rdW, h4, (by show 4 ≤ sizeLine; decide), fun p hp => ?_⟩
  refine ⟨_, rfl, _, rfl, p, _, _, .int m, rfl, rfl, SqT.of upd_same, atI_nat ?_, q _ (same_new hp _)⟩
  have e : ([V.int 3, V.int 3, V.int 10, V.int 10] : List V) = mostK.map V.int := rfl
  rw [e, List.getElem?_map, hi]
  rfl
end
end DP
namespace DP
open PySem PySem.Spec PyProof.Rows L2
def SameA (as : List Addr) (H H' : Hp) : Prop := ∀ b o, b ∉ as → H b = some o → H' b = some o
theorem SameA.trans {as : List Addr} {H H1 H2 : Hp} (x : SameA as H H1) (y : SameA as H1 H2) : SameA as H H2 := fun b o n h => y b o n (x b o n h)
theorem SameA.of {as : List Addr} {H H' : Hp} (s : Same H H') : SameA as H H' := fun b o _ h => s b o h
theorem SameA.ofX {as : List Addr} {a : Addr} {H H' : Hp} (s : SameX a H H') (h : a ∈ as) : SameA as H H' := fun b o n q => s b o (fun z => n (z ▸ h)) q
theorem SameA.new {as : List Addr} {H H' : Hp} {L : Addr} {o : HO} (hL : H L = none) (s : SameA as H H') : SameA as H (upd H' L o) := fun b u n h => by
  rw [upd_ne (ne_of_none h hL)]
  exact s b u n h
theorem at_ne {K : PySem.W.Frag} {mg : Str → Option Value} {x y : Str} {st st' : Stmt} {ps ps' : List Str} {f g : Addr} (A : At K mg x st ps) (B : At K mg y st' ps') (hf : mg x = some (.ref f)) (hg : mg y = some (.ref g)) (n : x ≠ y) : f ≠ g := fun z => by
  obtain ⟨f', fd, F, e1, _⟩ := A.ex
  obtain ⟨g', gd, G, e2, _⟩ := B.ex
  rw [hf] at e1
  rw [hg] at e2
  cases e1
  cases e2
  obtain ⟨_, _, _, _, _, _, _, _, _, e3, l1, _⟩ := F.ex
  obtain ⟨_, _, _, _, _, _, _, _, _, e4, l2, _⟩ := G.ex
  rw [← z, l1] at l2
  have e : fd = gd := by
    injection Option.some.inj l2 with _ _ h _
    injection h
  have e5 := congrArg FuncData.name (e3.symm.trans (e.trans e4))
  exact n e5
end DP
namespace DP
open PySem PySem.Spec PyProof.Rows L2
/-- a staticmethod of a class -/
structure SMet (K : PySem.W.Frag) (C : Addr) (m : Str) (g : Addr) : Prop where
  ex : ∃ p rest, PySem.W.findCls K (.ref C) (.type "type") m = some (.get (.builtin "staticmethod.__get__") (.ref p) .none (.ref C)) ∧ PySem.W.recIn K p "staticmethod" = some (.ref g :: rest)
structure SAt (K : PySem.W.Frag) (C : Addr) (m qual : Str) (st : Stmt) (ps : List Str) : Prop where
  ex : ∃ f fd, Fun K m qual st f fd ∧ SMet K C m f ∧ Binds K fd ps []
structure SDef (P : Program) (w : World) (K : PySem.W.Frag) (mg : Str → Option Value) (base : Heap) (CX : CXT) (k : Nat) (C : Addr) (m : Str) (ps : List Str) (sp : Sp) : Prop where
  ex : ∃ f fd, FnOk P w K mg base CX k f fd ps sp ∧ SMet K C m f ∧ PySem.W.keepIn K (.ref f) = true ∧ Binds K fd ps []
section
variable {P : Program} {w : World} {K : PySem.W.Frag} {mg : Str → Option Value} {base : Heap} {C : Addr} {m qual : Str} {st : Stmt} {ps N : List Str} {k : Nat} {sp : Sp}
theorem SAt.ok (F : SAt K C m qual st ps) (S : FnScope N ps (defScope st)) (len : ∀ vs H Q E, sp vs H Q E → vs.length = ps.length)
    (hbody : ∀ (f : Addr) (cdv : Value) (A : Around) (outer : List Env) (s : Shared) (H : Hp) (vs : List V) (Q : VK) (E : XK), Room k (A.deeper (envOfC qual (defScope st) s.heap.objs.size f cdv)) → sp vs H Q E →
      ∃ t, PSs (cxOf CX0 P w K mg base N qual (defScope st) f cdv A outer s H E).nox (defBody st) t ∧ t { nx := fun _ H' => Q .non H', rt := Q } (start N vs) H) : SDef P w K mg base CX0 (k + 1) C m ps sp := by
  obtain ⟨f, fd, G, M, b⟩ := F.ex
  exact ⟨f, fd, G.ok S len (fun cdv A outer s H vs Q E hr h => hbody f cdv A outer s H vs Q E hr h), M, G.kp, b⟩
end
def worF (u : Str) (h : Int) (t0 t1 t2 t3 : Addr) : List (Str × V) := [("text", .str u), ("horizon", .int h), ("satellites", .ref t0), ("stations", .ref t1), ("recordings", .ref t2), ("passes", .ref t3)]
structure WorldAt (K : PySem.W.Frag) (CS CT CR CP CW : Addr) (H : Hp) (a : Addr) (W : WorldD) : Prop where
  ex : ∃ dx t0 t1 t2 t3 x0 x1 x2 x3, H a = some (.ins CW dx (worF (textW W) W.horizon t0 t1 t2 t3)) ∧ SqT K H t0 x0 ∧ Paired (SatAt K CS H) x0 W.sats ∧ SqT K H t1 x1 ∧ Paired (StaAt CT H) x1 W.stas ∧
    SqT K H t2 x2 ∧ Paired (RecAt CR H) x2 W.recs ∧ SqT K H t3 x3 ∧ Paired (PasAt K CP H) x3 W.pass
theorem WorldAt.same {K : PySem.W.Frag} {CS CT CR CP CW : Addr} {H H' : Hp} {a : Addr} {W : WorldD} (h : WorldAt K CS CT CR CP CW H a W) (z : Same H H') : WorldAt K CS CT CR CP CW H' a W := by
  obtain ⟨dx, t0, t1, t2, t3, x0, x1, x2, x3, g, a0, b0, a1, b1, a2, b2, a3, b3⟩ := h.ex
  exact ⟨dx, t0, t1, t2, t3, x0, x1, x2, x3, z _ _ g, Same.tup z a0, Paired.mapP b0 fun _ _ y => y.same z, Same.tup z a1, Paired.mapP b1 fun _ _ y => y.same z, Same.tup z a2, Paired.mapP b2 fun _ _ y => y.same z, Same.tup z a3, Paired.mapP b3 fun _ _ y => y.same z⟩
section
variable {K : PySem.W.Frag} {CS CT CR CP C : Addr} {H H' : Hp} {x dx th l0 l1 l2 l3 : Addr} {y : V} {S : List SatD} {T : List StaD} {R : List RecD} {P : List PasD}
theorem ne_bare {b D dy : Addr} {fs : List (Str × V)} (hx : H x = some (.ins C dx [])) (hb : H b = some (.ins D dy fs)) (n : fs.length ≠ 0) : b ≠ x := ins_ne hb hx n
/-- the things stay where a new object is filled -/
theorem Thg.bare (h : Thg K CS CT CR CP H th l0 l1 l2 l3 S T R P) (hx : H x = some (.ins C dx [])) (z : SameX x H H') : Thg K CS CT CR CP H' th l0 l1 l2 l3 S T R P := by
  obtain ⟨x0, a0, b0⟩ := h.sats
  obtain ⟨x1, a1, b1⟩ := h.stas
  obtain ⟨x2, a2, b2⟩ := h.recs
  obtain ⟨x3, a3, b3⟩ := h.pass
  refine ⟨z _ _ (ne_of h.tup hx (fun z => nomatch z)) h.tup, h.d01, h.d02, h.d03, h.d12, h.d13, h.d23, ⟨x0, z _ _ (ne_of a0 hx (fun z => nomatch z)) a0, Paired.mapP b0 fun _ _ q => ?_⟩, ⟨x1, z _ _ (ne_of a1 hx (fun z => nomatch z)) a1, Paired.mapP b1 fun _ _ q => ?_⟩,
    ⟨x2, z _ _ (ne_of a2 hx (fun z => nomatch z)) a2, Paired.mapP b2 fun _ _ q => ?_⟩, ⟨x3, z _ _ (ne_of a3 hx (fun z => nomatch z)) a3, Paired.mapP b3 fun _ _ q => ?_⟩⟩
  · obtain ⟨b, dx, t, ls, h1, h2, h3, h4⟩ := q
    exact ⟨b, dx, t, ls, h1, z _ _ (ne_bare hx h2 (by show 8 ≠ 0; decide)) h2, z.sqT hx h3, z.spans hx h4⟩
  · obtain ⟨b, dx, h1, h2⟩ := q
    exact ⟨b, dx, h1, z _ _ (ne_bare hx h2 (by show 3 ≠ 0; decide)) h2⟩
  · obtain ⟨b, dx, h1, h2⟩ := q
    exact ⟨b, dx, h1, z _ _ (ne_bare hx h2 (by show 10 ≠ 0; decide)) h2⟩
  · obtain ⟨b, dx, t, h1, h2, h3⟩ := q
    exact ⟨b, dx, t, h1, z _ _ (ne_bare hx h2 (by show 7 ≠ 0; decide)) h2, z.sqT hx h3⟩
end
end DP
namespace DP
open PySem PySem.Spec PyProof.Rows L2
section
open PySem.W PySem.Calls
variable {prog : Program} {w : World} {A : Around} {E : Value → Shared → Prop} {h : Heap} {g : Array GenState} {d : Drawn} {t : Nat} {os : OsState}
variable {nm q : Str} {C N : Addr} {bs bm : List Value} {hdct : Bool} {sn : List Str} {sub : List Value} {ab : Bool} {col : Option Bool} {dd : Option Addr} {k0 k1 k2 k3 k5 : Option Value}
theorem call_mw {u e t0 : Addr} {rest : List Value} {Q : Value → Shared → Prop}
    (hC : h.get? C = some (excClassObj nm q C N bs bm hdct sn sub ab col dd k0 k1 k2 k3 k5 "ValueError.__new__")) (he : h.get? e = some (HandSPX.excO C t0)) (hu : h.get? u = some (kxs_mw "ValueError.__init__" e)) (hrest : rest.length ≤ sizeLine)
    (hq : ∀ h' t1, (∀ b o, b ≠ e → h.get? b = some o → h'.get? b = some o) → h'.get? e = some (HandSPX.excO C t1) → Q .none ⟨h', g, d, t, os⟩) :
    wpAny (model prog w) A (call (.ref u) rest) Q E ⟨h, g, d, t, os⟩ := by
  refine wpAny_call (codeAny_of_tree ?_)
  show wpAny _ A.in1 (callAny (.ref u) ⟨rest, []⟩) _ _ _
  simp only [callAny]
  refine wpAny_bind (wpAny_load hu ?_)
  simp only [kxs_mw, show (Value.type "method-wrapper" == Value.type "method" || Value.type "method-wrapper" == Value.type "builtin_function_or_method" || Value.type "method-wrapper" == Value.type "method-wrapper") = true by decide, if_true]
  refine W.KFB.if_so (by decide) ?_
  refine wpAny_bind (ESX.check_bound F.excBase_ValueError hC he rfl ?_)
  refine wpAny_bind (wpAny_pure (wpAny_pure ?_))
  refine ⟨Code.quiet_builtin _ (by decide +kernel), codeAny_builtin F.excBase_ValueError.initEntry ?_⟩
  rw [Around.under_plainId F.excBase_ValueError.init.plain _]
  wp_walk
  refine hq _ h.objs.size (fun b o hb ho => ?_) ?_
  · rw [Heap.get?_update_other _ _ (Ne.symm hb)]
    exact Heap.get?_push_of_some _ ho
  · rw [Heap.get?_update_self _ (Heap.get?_push_of_some _ he) rfl]
    rfl
end
/-- names: the parameters first; a free name is __class__ -/
structure FnScopeS (N P : List Str) (sc : Scope) : Prop where
  kind : sc.kind = .function
  co : sc.isCoroutine = false
  gen : sc.isGenerator = false
  nd : N.Nodup
  pre : N.take P.length = P
  par : ∀ x ∈ P, sc.names.lookup x = some .local
  nocell : ∀ y ∈ sc.names, y.2 ≠ .cell
  free : ∀ y ∈ sc.names, y.2 = .free → y.1 = ("__class__" : Str)
  su : sc.names.lookup ("super" : Str) = some .globalImplicit
  cl : sc.names.lookup ("__class__" : Str) = some .free
def cxS (CX : CXT) (P : Program) (w : World) (K : PySem.W.Frag) (mg : Str → Option Value) (base : Heap) (N : List Str) (qual : Str) (scope : Scope) (f : Addr) (cd : Value) (cc : Addr) (A : Around) (outer : List Env) (s : Shared) (H : Hp) (E : XK) : Cx where
  prog := P
  w := w
  K := K
  mg := mg
  base := base
  A := A.deeper (PySem.W.ksEnv qual scope s.heap.objs.size f cd cc)
  N := N
  s_0 := s
  H_0 := H
  env := PySem.W.ksEnv qual scope s.heap.objs.size f cd cc
  outer := outer
  stack := PySem.W.ksEnv qual scope s.heap.objs.size f cd cc :: outer
  ex := []
  calm := true
  fn := fun _ => false
  pn := []
  xe := fun e s' => wpAny (model P w) (A.deeper (PySem.W.ksEnv qual scope s.heap.objs.size f cd cc)) (leaving (PySem.W.ksEnv qual scope s.heap.objs.size f cd cc) e) (fun _ s'' => CX outer H s E e s'') (fun e' s'' => CX outer H s E e' s'') s'
theorem lookup_of_mem {α β : Type} [BEq α] [LawfulBEq α] {a : α} {b : β} : ∀ {l : List (α × β)}, (l.map (·.1)).Nodup → (a, b) ∈ l → l.lookup a = some b
  | [], _, h => absurd h (by simp)
  | (c, e) :: l, n, h => by
    rw [List.map_cons, List.nodup_cons] at n
    rw [List.lookup_cons]
    rcases List.mem_cons.mp h with h2 | h2
    · cases h2
      simp
    · have hne : (a == c) = false := by
        simp only [beq_eq_false_iff_ne]
        rintro rfl
        exact n.1 (List.mem_map.mpr ⟨(a, b), h2, rfl⟩)
      rw [hne]
      exact lookup_of_mem n.2 h2
theorem zip_map_fst {α β : Type} : ∀ {l : List α} {m : List β}, l.length = m.length → (l.zip m).map (·.1) = l
  | [], [], _ => rfl
  | a :: l, b :: m, h => by
    rw [List.zip_cons_cons, List.map_cons, zip_map_fst (by simpa using h)]
  | [], _ :: _, h => by simp at h
  | _ :: _, [], h => by simp at h
theorem cls_lookup {x : Str} {cc c : Addr} (h : ([(("__class__" : Str), cc)] : List (Str × Addr)).lookup x = some c) : x = ("__class__" : Str) ∧ c = cc := by
  rw [List.lookup_cons] at h
  by_cases e : x = ("__class__" : Str)
  · have e2 : (x == ("__class__" : Str)) = true := by simpa using e
    rw [e2] at h
    exact ⟨e, (Option.some.inj h).symm⟩
  · have e2 : (x == ("__class__" : Str)) = false := by simpa using e
    rw [e2] at h
    cases h
section
variable {CX : CXT} {P : Program} {w : World} {K : PySem.W.Frag} {mg : Str → Option Value} {base : Heap} {N ps : List Str} {qual : Str} {scope : Scope} {f cc CT : Addr} {cd : Value} {A : Around} {outer : List Env} {s : Shared} {H : Hp} {E : XK} {us : List Value} {vs : List V}
theorem inv_startS {h₁ : Heap} {tk : Nat} {ccl : Value} {ccd : Option Addr} {ccs : Array (Option Value)} (S : FnScopeS N ps scope) (hd : A.handled = none) (e0 : Env0 P w K mg base A outer s H) (hl : vs.length = ps.length) (r : Vals vs us)
    (lkc : K.lookup cc = some ⟨ccl, ccd, .cell (some (.ref CT)), ccs⟩)
    (hns : h₁.Ns s.heap.objs.size (fun x => (ps.zip us).reverse.lookup x)) (hk : ∀ b o, s.heap.get? b = some o → h₁.get? b = some o) :
    Inv (cxS CX P w K mg base N qual scope f cd cc A outer s H E) [] (start N vs) H { s with heap := h₁, toks := tk } := by
  have hpl : ps.length ≤ N.length := by have := congrArg List.length S.pre; rw [List.length_take] at this; omega
  have noA : ∀ b : Addr, b ∉ (cxS CX P w K mg base N qual scope f cd cc A outer s H E).ex := fun b z => absurd (show b ∈ ([] : List Addr) from z) (by simp)
  have bcc : base.get? cc = some ⟨ccl, ccd, .cell (some (.ref CT)), ccs⟩ := e0.mod.kin _ _ lkc
  have ndP : ps.Nodup := by rw [← S.pre]; exact S.nd.sublist (List.take_sublist _ _)
  have hul : ps.length = us.length := by rw [← hl]; exact r.length
  refine ⟨⟨e0.mod, S.kind, rfl, rfl, Nat.le_refl _, fun y z c h1 h2 => ?_, fun y hy => ?_, fun y c h _ => absurd (show false = true from h) Bool.false_ne_true, fun _ => hd, Around.frames_deeper e0.frames, .inr ⟨rfl, rfl⟩, fun b z => absurd z (noA b), e0.bs, e0.bsz, fun b _ _ => noA b, fun b z => absurd z (noA b), e0.funs, e0.frf⟩,
    rfl, e0.bare, Un.kept hk, ⟨_, hns, fun i y v h1 h2 h3 => ?_⟩, fun y c h => ?_, e0.hok.fresh (Nat.le_refl _), fun y c h => ?_, fun p hp => absurd (show p ∈ ([] : List (Addr × Obj)) from hp) (by simp), e0.hok.kept hk, ?_⟩
  · exact (cls_lookup h1).1.trans (cls_lookup h2).1.symm
  · have hy : scope.names.lookup y = some .cell ∨ scope.names.lookup y = some .free := hy
    rcases hy with hy | hy
    · exact absurd rfl (S.nocell _ (PySem.mem_of_lookup hy))
    · have e := S.free _ (PySem.mem_of_lookup hy) rfl
      refine ⟨cc, ?_⟩
      show ([(("__class__" : Str), cc)] : List (Str × Addr)).lookup y = some cc
      dsimp only at e
      rw [e]
      rfl
  · have hi : i < vs.length := by
      unfold L2.start at h2
      by_cases hi : i < vs.length
      · exact hi
      · rw [List.getElem?_append_right (by simpa using hi)] at h2
        rw [List.getElem?_replicate] at h2
        split at h2 <;> cases h2
    have ha : vs[i]? = some v := by
      unfold L2.start at h2
      rw [List.getElem?_append_left (by simpa using hi), List.getElem?_map] at h2
      cases e : vs[i]? with
      | none => rw [e] at h2; cases h2
      | some a => rw [e] at h2; cases h2; rfl
    obtain ⟨u, hu, rv⟩ := r.get ha
    have hp : ps[i]? = some y := by
      rw [← S.pre, List.getElem?_take_of_lt (by omega)]; exact h1
    refine ⟨u, rv, .inl ⟨S.par y (List.mem_of_getElem? hp), ?_⟩⟩
    have hm : (y, u) ∈ ps.zip us := by
      refine List.mem_iff_getElem?.mpr ⟨i, ?_⟩
      rw [List.getElem?_zip_eq_some]
      exact ⟨hp, hu⟩
    refine lookup_of_mem ?_ (List.mem_reverse.mpr hm)
    rw [List.map_reverse, zip_map_fst hul]
    exact List.pairwise_reverse.mpr (ndP.imp fun h => h.symm)
  · obtain ⟨_, rfl⟩ := cls_lookup h
    exact ⟨_, _, hk _ _ (e0.bs _ _ bcc).1, rfl⟩
  · obtain ⟨_, rfl⟩ := cls_lookup h
    exact (e0.bs _ _ bcc).2
  · unfold L2.start
    show _ = N.length
    rw [List.length_append, List.length_map, List.length_replicate]
    omega
end
/-- what the written part says of the class and of super() in its __init__ -/
structure SupC (K : PySem.W.Frag) (mg : Str → Option Value) (C cda cc : Addr) : Prop where
  ox : OexC K C
  sub : PySem.W.subIn K (.ref C) (.type "ValueError") = some true
  along : PySem.W.ks_superIn K C C "__init__" = some (some (.builtin "ValueError.__init__"))
  third : PySem.W.nsIn K cStatics "thirdparty.any" = some none
  su : mg "super" = none
  code : ∃ ccl cdd vs ccs tf, K.lookup cda = some ⟨ccl, cdd, .fields vs, ccs⟩ ∧ vs[2]? = some (.str "/claim/cut.py" tf)
  cell : ∃ cl cld csl, K.lookup cc = some ⟨cl, cld, .cell (some (.ref C)), csl⟩
/-- what it says of the program -/
structure SupP (P : Program) : Prop where
  file : ((P.main.file : Str) == ("/claim/cut.py" : Str)) = true
  top : (P.main.scope.names.lookup ("super" : Str)).isSome = false
theorem fn_sup {CX : CXT} {P : Program} {w : World} {K : PySem.W.Frag} {mg : Str → Option Value} {base : Heap} {k : Nat} {f cda cc C : Addr} {name qual : Str} {params : Arguments} {body : List Stmt} {scope : Scope} {dV kV doc pm ct oc : Value} {an od : Option Addr}
    {osl : Array (Option Value)} {N ps : List Str} {sp : Sp} {e : Expr} {p0 p1 p2 p3 p4 : Pos} {ar : Arg} (SC : SupC K mg C cda cc) (SP : SupP P)
    (lk : K.lookup f = some ⟨oc, od, .func (PySem.W.ksFn name qual params (.Expr (.Call (.Attribute (.Call (.Name "super" p0) [] [] p1) "__init__" p2) [e] [] p3) p4 :: body) scope dV kV doc pm an (.ref cda) ct cc), osl⟩)
    (hcd : PySem.W.codeIn K (.ref cda) qual = true) (S : FnScopeS N ps scope) (hp : (params.posonlyargs ++ params.args).head? = some ar) (hN : N[0]? = some ar.arg) (hka : scope.names.lookup ar.arg = some .local)
    {pl : Env → Sem Bool} (hst : ∀ env, starEach [e] env = [(false, eval e env)])
    (he : ∀ env : Env, eval (.Call (.Attribute (.Call (.Name "super" p0) [] [] p1) "__init__" p2) [e] [] p3) env = (do
      let ov ← attributeBase (.Call (.Name "super" p0) [] [] p1) "__init__" env (eval (.Call (.Name "super" p0) [] [] p1) env)
      standAt p2.atName
      let (f, first) ← holding [ov] (getMethod ov "__init__" (pl env))
      callWith p3 f first (backTo p3 (starEach [e] env)) []))
    (len : ∀ vs H Q E, sp vs H Q E → vs.length = ps.length)
    (hbody : ∀ (A : Around) (outer : List Env) (s : Shared) (H : Hp) (vs : List V) (Q : VK) (E : XK), Room k (A.deeper (PySem.W.ksEnv qual scope s.heap.objs.size f (.ref cda) cc)) → sp vs H Q E →
      ∃ ta t, PA (cxS CX P w K mg base N qual scope f (.ref cda) cc A outer s H E) [e] ta ∧ PSs (cxS CX P w K mg base N qual scope f (.ref cda) cc A outer s H E) body t ∧
        ∃ (x : Addr) (vs' : List V), vs = .ref x :: vs' ∧ H x = some (exo x C none) ∧ ta (start N vs) H fun ws H1 => ws.length ≤ 1000 ∧ H1 x = some (exo x C none) ∧ t { nx := fun _ H' => Q .non H', rt := Q } (start N vs) H1) :
    FnOk P w K mg base CX (k + 1) f (PySem.W.ksFn name qual params (.Expr (.Call (.Attribute (.Call (.Name "super" p0) [] [] p1) "__init__" p2) [e] [] p3) p4 :: body) scope dV kV doc pm an (.ref cda) ct cc) ps sp := by
  refine ⟨len, fun A outer s H args us vs Q E hr e0 hb r hsp => ?_⟩
  have hl := len _ _ _ _ hsp
  have KX : K.In s.heap := e0.mod.kin.keeps fun b o e => (e0.bs b o e).1
  have lim : s.heap.NoLimit := e0.mod.nolimit.keeps fun b o e => (e0.bs b o e).1
  obtain ⟨cl, cld, csl, lkc⟩ := SC.cell
  obtain ⟨ccl, cdd, cvs, ccs, tf, lkd, hfile⟩ := SC.code
  obtain ⟨nm, q, NN, bs, bm, sn, sub, ab, col, dd, k0, k1, k2, k3, k5, hC, hbm⟩ := SC.ox.cls
  have hcl : PySem.W.clsIn K C = some { name := nm, bases := bs, mro := .ref C :: bm, ns := NN, qualname := q, hasDict := true, slotNames := sn, subclasses := sub, abstract := ab, collection := col, hasDel := false } := by unfold PySem.W.clsIn; rw [hC] <;> rfl
  have hal : PySem.W.alongIn K "__init__" (((Value.ref C :: bm).dropWhile (· != .ref C)).drop 1) = some (some (.builtin "ValueError.__init__")) := by
    have z := SC.along
    unfold PySem.W.ks_superIn at z
    rw [hcl] at z
    exact z
  refine PySem.ks_codeAny_call_defAt (fd := PySem.W.ksFn name qual params (.Expr (.Call (.Attribute (.Call (.Name "super" p0) [] [] p1) "__init__" p2) [e] [] p3) p4 :: body) scope dV kV doc pm an (.ref cda) ct cc) (binds := ps.zip us) hr.depth (KX _ _ lk) rfl lim (PySem.W.codeRec_of KX hcd) rfl hb S.nocell
    (fun y hy => S.par _ (List.of_mem_zip hy).1) (fun h₁ hns hk₁ => ?_) S.co S.gen S.kind
  obtain ⟨ta, t, hta, hpss, x, vs', rfl, hx, hq⟩ := hbody A outer s H vs Q E (hr.deeper _) hsp
  have I : Inv (cxS CX P w K mg base N qual scope f (.ref cda) cc A outer s H E) [] (start N (.ref x :: vs')) H { s with heap := h₁, toks := s.toks + (ps.zip us).length } := inv_startS S hr.hd e0 hl r lkc hns hk₁
  have fin : ∀ {s' : Shared} {σ' : L2.St} {H' : Hp} {v : V} {u : Value}, Inv (cxS CX P w K mg base N qual scope f (.ref cda) cc A outer s H E) [] σ' H' s' → RelV v u → Q v H' → CE outer P w H s Q u s' :=
    fun {s' σ' H' v u} J rv q => ⟨v, H', J.os, J.bare, J.base, J.hok, rv, q⟩
  obtain ⟨t1, ho⟩ := exo_at I.hok hx
  show _root_.PySem.wpAt (model P w) (A.deeper (PySem.W.ksEnv qual scope s.heap.objs.size f (.ref cda) cc)) (.func _ (PySem.W.ksEnv qual scope s.heap.objs.size f (.ref cda) cc)) (execs _ (PySem.W.ksEnv qual scope s.heap.objs.size f (.ref cda) cc)) _ _ _
  refine PySem.ks_wpAt_execs_cons (PySem.ks_wpAt_Expr_any (PySem.ks_wpAt_MethodCall (PySem.ks_wpAt_super_base (env := PySem.W.ksEnv qual scope s.heap.objs.size f (.ref cda) cc) S.su S.cl (by decide) rfl (I.kIn _ _ lk) rfl hp rfl (I.kIn _ _ lkd) rfl hfile SP.file SP.top ?_) (he _)) (by simp [interactive, S.kind]))
  obtain ⟨mb, hb1, hb2⟩ := I.mod.blt
  refine PySem.W.ks_loadName_global S.kind S.su (Calls.loadGlobal_builtin (env := PySem.W.ksEnv qual scope s.heap.objs.size f (.ref cda) cc) (I.mod.glob.keeps I.bk) SC.su (hb1.keeps I.bk) ((hb2 "super" (by decide)).trans PyProof.Rows.Boot.«super») ⟨rfl, ?_⟩)
  refine wpAny_loadName_free S.kind S.cl rfl ⟨_, I.kIn _ _ lkc, rfl⟩ ?_
  obtain ⟨m, hn, hloc⟩ := I.loc
  have hself : m ar.arg = some (.ref x) := by
    obtain ⟨u, ru, lu⟩ := hloc 0 ar.arg (.ref x) hN rfl (.inl hka)
    obtain rfl : u = Value.ref x := ru
    rcases lu with ⟨_, lu⟩ | ⟨lu, _⟩
    · exact lu
    · have lu' : scope.names.lookup ar.arg = some .cell ∨ scope.names.lookup ar.arg = some .free := lu
      rw [hka] at lu'
      rcases lu' with z | z <;> cases z
  refine wpAny_loadName_local S.kind hka hn hself ?_
  refine PySem.ks_wpAny_isType_cls (I.kIn _ _ hC) rfl ⟨rfl, ?_⟩
  have hmro : PySem.W.mroIn K C (.ref C) = some true := by
    unfold PySem.W.mroIn
    rw [hcl, Option.bind_some]
    simp
  refine PySem.ks_wpAny_call_super (I.kIn _ _ hC) rfl ho rfl (fun c z => by cases z) (PySem.W.looks_mroIn I.kIn hmro) (fun h2 e2 kk2 => ?_)
  have I2 := I.kept (t' := s.toks + (ps.zip us).length) kk2
  have ho2 := kk2 _ _ ho
  have hI : PySem.W.Looks (model P w) h2 (isInstance (.ref x) (.type "ValueError")) true := (show PySem.W.InstAt h2 x _ C none from ⟨ho2, rfl, rfl, trivial⟩).type.andThen (PySem.W.looks_subIn I2.kIn SC.sub)
  have hxC : x ≠ C := fun z => by
    rw [z] at ho2
    have y := I2.kIn _ _ hC
    rw [ho2] at y
    cases y
  refine PySem.W.kxs_getMethod PySem.W.kxs_ValueError e2 (PySem.W.looks_opaque I2.kIn SC.third) (l₀ := .ref C :: bm) (fun A Q E s k q => wpAny_bind ((PySem.W.looks_clsIn (show K.In h2 from I2.kIn) hcl) A _ E s k (wpAny_pure q))) rfl I2.kIn hal hI hxC (by decide) ?_
  have e3 : (h2.push (PySem.W.kxs_mw "ValueError.__init__" x)).get? h2.objs.size = some (PySem.W.kxs_mw "ValueError.__init__" x) := Heap.get?_push_at rfl rfl
  have hfr : H h2.objs.size = none := I2.hok.fresh (Nat.le_refl _)
  have hlo : h2.objs.size ≠ (PySem.W.ksEnv qual scope s.heap.objs.size f (.ref cda) cc).locals := fun z => by
    have y := I2.lt
    rw [show (cxS CX P w K mg base N qual scope f (.ref cda) cc A outer s H E).env.locals = h2.objs.size from z.symm] at y
    exact Nat.lt_irrefl _ y
  have hfs : h2.objs.size ∉ (cxS CX P w K mg base N qual scope f (.ref cda) cc A outer s H E).fs := I2.nofs (Nat.le_refl _)
  have I3 := (I2.kept (t' := s.toks + (ps.zip us).length + 1) (h' := h2.push (PySem.W.kxs_mw "ValueError.__init__" x)) fun b o z => Heap.get?_push_of_some _ z)
  have I4 : Inv (cxS CX P w K mg base N qual scope f (.ref cda) cc A outer s H E) [(h2.objs.size, PySem.W.kxs_mw "ValueError.__init__" x)] _ H _ := I3.pins_of fun p hp => by
    rcases List.mem_singleton.mp hp with rfl
    exact ⟨e3, hfr, hlo, hfs, fun v z => by cases z⟩
  have hrun := hta.run p3 _ _ _ H _ I4 hq
  rw [hst] at hrun
  rw [hst]
  refine PySem.W.kxs_callWith (i := "ValueError.__init__") (x := x) rfl (PySem.Calls.evalArgs_plain (thn hrun fun us2 s3 ⟨ws, H1, I5, r5, hlen, hx1, hq1⟩ => ⟨?_, ?_⟩))
  · exact (I5.pin _ (List.mem_append_right _ (List.mem_singleton.mpr rfl))).1
  have hu5 : s3.heap.get? h2.objs.size = some (PySem.W.kxs_mw "ValueError.__init__" x) := (I5.pin _ (List.mem_append_right _ (List.mem_singleton.mpr rfl))).1
  obtain ⟨t5, ho5⟩ := exo_at I5.hok hx1
  obtain ⟨hp5, g5, d5, tk5, os5⟩ := s3
  have hl5 : us2.length ≤ sizeLine := by
    rw [← Paired.length r5, sizeLine_eq]
    omega
  refine call_mw (I5.kIn _ _ hC) ho5 hu5 hl5 fun h6 t6 k6 hx6 => ?_
  have J := I5.write (t' := tk5) (x := x) (e := x) (o := exo x C none) (by rw [hx1]; exact True.intro) (.inl rfl) k6 ⟨_, hx6⟩ (exo_ok hx6)
  have eu : upd H1 x (exo x C none) = H1 := by
    funext b
    by_cases hb : b = x
    · rw [hb, upd_same, hx1]
    · rw [upd_ne hb]
  rw [eu] at J
  have J0 : Inv (cxS CX P w K mg base N qual scope f (.ref cda) cc A outer s H E) [] _ H1 _ := J.pins_of fun p hp => absurd hp (by simp)
  refine wpAt_of_wpAny (wpAny_mono (hpss.run [] _ _ H1 _ J0 hq1) (fun fl s' hs => ?_) fun e s' hs => hs)
  cases fl with
  | ret u =>
    obtain ⟨v, σ', H', J, rv, q⟩ := hs
    exact fin J rv q
  | next =>
    obtain ⟨σ', H', J, q⟩ := hs
    exact fin (v := V.non) (u := Value.none) J rfl q
  | brk =>
    obtain ⟨_, _, _, q⟩ := hs
    exact False.elim q
  | cont =>
    obtain ⟨_, _, _, q⟩ := hs
    exact False.elim q
end DP
namespace DP
open PySem PySem.Spec PyProof.Rows L2
section
variable {X : Cx} {CX : CXT} {x : Str} {e : Expr} {es : List Expr} {ta : TA} {p pos : Pos} {C fI : Addr} {k : Nat} {fd : FuncData} {ps : List Str} {sp : Sp}
/-- an own error with an own __init__, made where nothing is handled -/
theorem pmkN_oex (T : OexC X.K C) (iC : PySem.W.findIn X.K (.ref C) "__init__" = some (some (.ref fI))) (tI : PySem.W.typeIn X.K (.ref fI) = some (.type "function"))
    (F1 : FnOk X.prog X.w X.K X.mg X.base CX k fI fd ps sp) (hr : Room (k + 1) X.A) (hb : Binds X.K fd ps []) (hx : Passes CX X (fun _ _ _ => False)) (hg : Gl X x) (hm : X.mg x = some (.ref C)) (ha : PA X (e :: es) ta)
    (hdb : (x == ("__debug__" : Str)) = false := by decide) (he : starEach (e :: es) X.env = (false, eval e X.env) :: starEach es X.env := by rfl) (hpl : (backTo pos (starEach es X.env)).any (·.1) = false := by rfl) :
    L2N.PMk X (.Call (.Name x p) (e :: es) [] pos) (tMkO C sp [] ta) := by
  intro pn0 st σ H0 R J w0
  obtain ⟨_, _, _, _, bm, _, _, _, _, _, _, _, _, _, _, cC, cB⟩ := T.cls
  refine wpAny_Call_Name_kw (ld_glob J hg hm (PySem.W.callWith_K (h₀ := X.base) J.ok.mod.kin T.kC (thn (ha.run pos pn0 st σ H0 _ J w0) fun us t1 z => ?_) he hpl) hdb)
  obtain ⟨vs, H1, J1, rv, lz, w1⟩ := z
  refine ⟨J1.kIn, ?_⟩
  show wpAny _ _ (call (.ref C) us) _ _ _
  rcases t1 with ⟨hh, gg, dr, tt, oo⟩
  obtain ⟨n, hn⟩ : ∃ n, n = hh.objs.size := ⟨_, rfl⟩
  have le1 : hh.objs.size ≤ n + 1 := by omega
  have free : H1 (n + 1) = none := J1.hok.fresh le1
  have w2 := w1 (n + 1) free
  rw [List.append_nil] at w2
  have grow : ∀ b o, hh.get? b = some o → ((hh.push (PySem.W.kdv_tup us)).push (PySem.HandSPX.excO C n)).get? b = some o := by
    intro b o z
    exact Heap.get?_push_of_some _ (Heap.get?_push_of_some _ z)
  have got : ((hh.push (PySem.W.kdv_tup us)).push (PySem.HandSPX.excO C n)).get? (n + 1) = some (PySem.HandSPX.excO C n) := by
    rw [hn]
    heap_get
  have J2 := J1.laid (t' := tt) (o := exo (n + 1) C none) grow le1 (exo_ok got)
  have rv2 : Vals (V.ref (n + 1) :: vs) (Value.ref (n + 1) :: us) := .cons rfl rv
  have ll : (Value.ref (n + 1) :: us ++ []).length = ps.length := by
    have z := rv2.length
    rw [F1.len _ _ _ _ w2] at z
    rw [List.append_nil, ← z]
  have lu : us.length ≤ sizeLine := by
    have z := Paired.length rv
    have z2 := sizeLine_eq
    omega
  have bt := hb _ (Value.ref (n + 1) :: us) J2.kIn ll
  rw [List.append_nil] at bt
  have body := F1.run _ X.stack _ _ ⟨Value.ref (n + 1) :: us, []⟩ (Value.ref (n + 1) :: us) _ _ (fun _ _ _ => False) (hr.make C us []) (J2.env0.make C us []) bt rv2 w2
  rw [hn] at body
  refine wpAny_call (PySem.HandSPX.call_own F.excBase_ValueError (fun Y => PySem.HandSPX.refsVE_contains Y bm cB) (J1.kIn _ _ cC) (PySem.W.looks_findIn J1.kIn iC) (fun self => PySem.W.bind_fn J1.kIn self tI) lu (codeAny_mono body fun r t2 y => ?_))
  rw [← hn] at y
  cases r with
  | error er => exact hx pn0 σ _ _ er t2 J2 y
  | ok fl =>
    cases fl with
    | next => exact y.elim
    | brk => exact y.elim
    | cont => exact y.elim
    | ret u =>
      obtain ⟨v, H2, os2, bare2, un2, hok2, rr, ev, d, fs, a1, a2, a3, w3⟩ := y
      subst ev
      rcases t2 with ⟨h2, g2, d2, t2, o2⟩
      obtain ⟨t0, G, J3, kG, gn, go, na⟩ := mk_end0 (d2 := d2) (t2 := t2) J1 le1 grow un2 hok2 os2 bare2 a1 a2 a3
      rw [← hn]
      exact ⟨rr, n + 1, _, _, ⟨G, g2, d2, t2, o2⟩, _, .ref C, some d, rfl, J3, kG, gn, go, ⟨rfl, rfl, fun ws z => by cases z; rfl⟩, rfl, rfl, na, rfl, bare2, raises_own T.exC T.tyC, w3⟩
end
section
variable {P : Program} {w : World} {K : PySem.W.Frag} {mg : Str → Option Value} {base : Heap} {x : Str} {st : Stmt} {ps N : List Str} {k : Nat} {sp : Sp}
/-- a def's body where errors' context is None -/
theorem fun_okN {qual : Str} {f : Addr} {fd : FuncData} (F : Fun K x qual st f fd) (S : FnScope N ps (defScope st)) (len : ∀ vs H Q E, sp vs H Q E → vs.length = ps.length)
    (hb : ∀ (cdv : Value) (A : Around) (outer : List Env) (s : Shared) (H : Hp) (vs : List V) (Q : VK) (E : XK), Room k (A.deeper (envOfC qual (defScope st) s.heap.objs.size f cdv)) → sp vs H Q E → ∃ t, PSs (cxOf (L2N.CX P w) P w K mg base N qual (defScope st) f cdv A outer s H E) (defBody st) t ∧ t { nx := fun _ H' => Q .non H', rt := Q } (start N vs) H) :
    FnOk P w K mg base (L2N.CX P w) (k + 1) f fd ps sp := by
  obtain ⟨_, _, _, _, _, _, cdv, _, _, e, lk, cd⟩ := F.ex
  subst e
  exact fn_of lk cd S len fun A outer s H vs Q E hr h => hb cdv A outer s H vs Q E hr h
/-- a def where an exception is handled -/
structure DefH (P : Program) (w : World) (K : PySem.W.Frag) (mg : Str → Option Value) (base : Heap) (CX : CXT) (k : Nat) (x : Str) (ps : List Str) (sp : Sp) : Prop where
  ex : ∃ f fd, L2H.FnH P w K mg base CX k f fd ps sp ∧ mg x = some (.ref f) ∧ PySem.W.keepIn K (.ref f) = true ∧ Binds K fd ps []
theorem At.okH (F : At K mg x st ps) (S : FnScope N ps (defScope st)) (len : ∀ vs H Q E, sp vs H Q E → vs.length = ps.length)
    (hbody : ∀ (f : Addr) (cdv : Value) (A : Around) (outer : List Env) (s : Shared) (H : Hp) (vs : List V) (Q : VK) (E : XK) (p : Addr × Obj), L2H.HotC (L2H.cxH CX0 P w K mg base N x (defScope st) f cdv A outer s H E p) → L2H.RoomH k (A.deeper (envOfC x (defScope st) s.heap.objs.size f cdv)) → sp vs H Q E →
      ∃ t, PSs (L2H.cxH CX0 P w K mg base N x (defScope st) f cdv A outer s H E p) (defBody st) t ∧ t { nx := fun _ H' => Q .non H', rt := Q } (start N vs) H) : DefH P w K mg base CX0 (k + 1) x ps sp := by
  obtain ⟨f, fd, G, m, b⟩ := F.ex
  have kp := G.kp
  obtain ⟨oc, od, kV, dc, pm, an, cdv, ct, osl, rfl, lk, cd⟩ := G.ex
  exact ⟨f, _, L2H.fn_ofH lk cd S len fun A outer s H vs Q E p hot hr h => hbody f cdv A outer s H vs Q E p ⟨p, ⟨hot.1, hot.2⟩, List.mem_singleton.mpr rfl⟩ hr h, m, kp, b⟩
theorem pe_fH {X : Cx} {e : Expr} {es : List Expr} {t : TA} {p pos : Pos} (D : DefH X.prog X.w X.K X.mg X.base CX0 k x ps sp) (hr : L2H.RoomH k X.A) (hc : L2H.HotC X) (ha : PA X (e :: es) t)
    (hg : Gl X x := by rfl) (hdb : (x == ("__debug__" : Str)) = false := by decide) (he : starEach (e :: es) X.env = (false, eval e X.env) :: starEach es X.env := by rfl) (hpl : (backTo pos (starEach es X.env)).any (·.1) = false := by rfl) :
    PE X (.Call (.Name x p) (e :: es) [] pos) (tCallS sp (fun _ _ _ _ => False) t) := by
  obtain ⟨f, fd, G, m, kp, b⟩ := D.ex
  exact L2H.pe_callH G hr hc hg m kp b (fun σ _ _ _ _ _ _ z => z.elim) ha hdb he hpl
end
end DP
namespace DP
open PySem PySem.Spec PyProof.Rows L2
abbrev s_TextFault___init__ : Stmt := inClass (topS 2) 0
theorem sc_TextFault___init__ : FnScopeS ["self", "line", "column", "reason"] ["self", "line", "column", "reason"] (defScope s_TextFault___init__) := ⟨rfl, rfl, rfl, by decide +kernel, rfl, by decide +kernel, by decide +kernel, by decide +kernel, by decide +kernel, by decide +kernel⟩
abbrev s_Line_refuse : Stmt := inClass (topS 11) 1
theorem sc_Line_refuse : FnScope ["self", "reason"] ["self", "reason"] (defScope s_Line_refuse) := ⟨rfl, rfl, rfl, by decide +kernel, rfl, by decide +kernel, by decide +kernel⟩
def tfF (l c : Int) (r : Str) : List (Str × V) := [("reason", .str r), ("column", .int c), ("line", .int l)]
structure TfAt (K : PySem.W.Frag) (mg : Str → Option Value) (CT : Addr) : Prop where
  g : mg "TextFault" = some (.ref CT)
  ex : ∃ (fI cda cc : Addr) (oc kV doc pm ct : Value) (od an : Option Addr) (osl : Array (Option Value)), PySem.W.findIn K (.ref CT) "__init__" = some (some (.ref fI)) ∧ PySem.W.typeIn K (.ref fI) = some (.type "function") ∧
    K.lookup fI = some ⟨oc, od, .func (PySem.W.ksFn "__init__" "TextFault.__init__" (defArgs s_TextFault___init__) (defBody s_TextFault___init__) (defScope s_TextFault___init__) .none kV doc pm an (.ref cda) ct cc), osl⟩ ∧
    PySem.W.codeIn K (.ref cda) "TextFault.__init__" = true ∧ SupC K mg CT cda cc
  nl : PySem.W.findIn K (.ref CT) "line" = some none
  nc : PySem.W.findIn K (.ref CT) "column" = some none
  nr : PySem.W.findIn K (.ref CT) "reason" = some none
  xf : XfC K CT
  iT : PySem.W.isClsIn K CT = true
  sT : PySem.W.subIn K (.ref CT) (.ref CT) = some true
  bT : PySem.W.subIn K (.ref CT) (.type "BaseException") = some true
  tT : PySem.W.typeIn K (.ref CT) = some (.type "type")
theorem TfAt.te {K : PySem.W.Frag} {mg : Str → Option Value} {CB : Addr} (T : TfAt K mg CB) : PySem.W.exmOne K (.ref CB) (.ref CB) = some true := by
  have e1 : (PySem.W.subIn K (.ref CB) (.type "BaseException") == some true) = true := by rw [T.bT] <;> rfl
  have e2 : ((PySem.W.clsIn K CB).isSome && PySem.W.typeIn K (.ref CB) == some (.type "type")) = true := by
    have h2' : (PySem.W.clsIn K CB).isSome = true := T.iT
    rw [h2', T.tT] <;> rfl
  show (if (PySem.W.subIn K (.ref CB) (.type "BaseException") == some true) = true then (if ((PySem.W.clsIn K CB).isSome && PySem.W.typeIn K (.ref CB) == some (.type "type")) = true then PySem.W.subIn K (.ref CB) (.ref CB) else none) else none) = some true
  rw [if_pos e1, if_pos e2]
  exact T.sT
section
variable {P : Program} {w : World} {K : PySem.W.Frag} {mg : Str → Option Value} {base : Heap} {C CT : Addr}
theorem MAt.okX {C : Addr} {m qual : Str} {st : Stmt} {ps N : List Str} {k : Nat} {sp : Sp} (F : MAt K C m qual st ps) (S : FnScope N ps (defScope st)) (len : ∀ vs H Q E, sp vs H Q E → vs.length = ps.length)
    (hbody : ∀ (f : Addr) (cdv : Value) (A : Around) (outer : List Env) (s : Shared) (H : Hp) (vs : List V) (Q : VK) (E : XK), Room k (A.deeper (envOfC qual (defScope st) s.heap.objs.size f cdv)) → sp vs H Q E →
      ∃ t, PSs (cxOf (L2N.CX P w) P w K mg base N qual (defScope st) f cdv A outer s H E) (defBody st) t ∧ t { nx := fun _ H' => Q .non H', rt := Q } (start N vs) H) : MDef P w K mg base (L2N.CX P w) (k + 1) C m ps [] sp := by
  obtain ⟨f, fd, G, M, b⟩ := F.ex
  exact ⟨f, fd, [], fun_okN G S len (fun cdv A outer s H vs Q E hr h => hbody f cdv A outer s H vs Q E hr h), M, b, .nil⟩
theorem At.okX {x : Str} {st : Stmt} {ps N : List Str} {k : Nat} {sp : Sp} (F : At K mg x st ps) (S : FnScope N ps (defScope st)) (len : ∀ vs H Q E, sp vs H Q E → vs.length = ps.length)
    (hbody : ∀ (f : Addr) (cdv : Value) (A : Around) (outer : List Env) (s : Shared) (H : Hp) (vs : List V) (Q : VK) (E : XK), Room k (A.deeper (envOfC x (defScope st) s.heap.objs.size f cdv)) → sp vs H Q E →
      ∃ t, PSs (cxOf (L2N.CX P w) P w K mg base N x (defScope st) f cdv A outer s H E) (defBody st) t ∧ t { nx := fun _ H' => Q .non H', rt := Q } (start N vs) H) : DefOk P w K mg base (L2N.CX P w) (k + 1) x ps sp := by
  obtain ⟨f, fd, G, m, b⟩ := F.ex
  obtain ⟨oc, od, _, _, _, _, _, _, osl, _, lk, _⟩ := G.ex
  exact ⟨f, fd, fun_okN G S len (fun cdv A outer s H vs Q E hr h => hbody f cdv A outer s H vs Q E hr h), m, G.kp, b, oc, od, osl, lk⟩
theorem DefOk.up {x : Str} {ps : List Str} {k : Nat} {sp : Sp} (D : DefOk P w K mg base CX0 k x ps sp) {CX : CXT} : DefOk P w K mg base CX k x ps sp := by
  obtain ⟨f, fd, G, m, kp, b, lk⟩ := D.ex
  refine ⟨f, fd, ⟨G.len, fun A outer s H args us vs Q E hr he hb hv h => codeAny_mono (G.run A outer s H args us vs Q E hr he hb hv h) fun r s' hq => ?_⟩, m, kp, b, lk⟩
  cases r with
  | error e => exact hq.elim
  | ok fl => cases fl <;> exact hq
theorem MDef.up {C : Addr} {m : Str} {ps : List Str} {ds : List V} {k : Nat} {sp : Sp} (D : MDef P w K mg base CX0 k C m ps ds sp) {CX : CXT} : MDef P w K mg base CX k C m ps ds sp := by
  obtain ⟨f, fd, us, G, M, b, v⟩ := D.ex
  refine ⟨f, fd, us, ⟨G.len, fun A outer s H args us vs Q E hr he hb hv h => codeAny_mono (G.run A outer s H args us vs Q E hr he hb hv h) fun r s' hq => ?_⟩, M, b, v⟩
  cases r with
  | error e => exact hq.elim
  | ok fl => cases fl <;> exact hq
theorem passOut {X : Cx} {E : XK} (hs : X.stack = X.env :: X.outer) (hf : X.env.frame = some X.env.locals) (hex : X.ex = []) {E₁ : Value → Shared → Prop}
    (hx : X.xe = fun e s' => wpAny (model X.prog X.w) X.A (leaving X.env e) (fun _ s'' => L2N.CX X.prog X.w X.outer X.H_0 X.s_0 E e s'') E₁ s') : Passes (L2N.CX X.prog X.w) X E :=
  L2N.passes_call (L2N.takes_of hs hf hex hx) fun _ _ _ _ h => h
theorem tos_len {n : Int} (h0 : 0 ≤ n) (h1 : n < 1000000000) : (Str.ofString (toString n)).length ≤ 9 := by
  rw [TL.len_tl, show TL.tl (Str.ofString (toString n)) = tl (num n) from rfl, num_nat h0]
  exact TL.numL_len (k := 9) (by decide) (by omega)
theorem log_lt {n : Int} (h0 : 0 ≤ n) (h1 : n < 1000000000) : n.natAbs.log2 < 1920 := by
  have : n.natAbs < 2 ^ 30 := by omega
  have h2 : n.natAbs.log2 < 30 ∨ n.natAbs = 0 := by
    by_cases c : n.natAbs = 0
    · exact .inr c
    · exact .inl ((Nat.log2_lt c).mpr this)
  rcases h2 with h2 | h2
  · omega
  · rw [h2]; decide
def spTF (CT : Addr) : Sp := fun vs H Q _ => ∃ (x : Addr) (l c : Int) (r : Str), vs = [.ref x, .int l, .int c, .str r] ∧ H x = some (exo x CT none) ∧ 0 ≤ l ∧ l < 1000000000 ∧ 0 ≤ c ∧ c < 1000000000 ∧ r.length ≤ 100 ∧
  ∀ dx, H dx = none → dx ≠ x → Q .non (upd (upd (upd (upd H dx (exd dx [("line", .int l)])) x (exo x CT (some dx))) dx (exd dx [("column", .int c), ("line", .int l)])) dx (exd dx (tfF l c r)))
theorem len_app (a b : Str) : (a ++ b).length = a.length + b.length := by
  rw [TL.len_tl, TL.len_tl, TL.len_tl, show TL.tl (a ++ b) = TL.tl a ++ TL.tl b from TL.tl_append _ _, List.length_append]
theorem d_TF (T : TfAt K mg CT) (SP : SupP P) {CX : CXT} : ∃ fI fd, PySem.W.findIn K (.ref CT) "__init__" = some (some (.ref fI)) ∧ PySem.W.typeIn K (.ref fI) = some (.type "function") ∧ OexC K CT ∧ Binds K fd ["self", "line", "column", "reason"] [] ∧
    FnOk P w K mg base CX 1 fI fd ["self", "line", "column", "reason"] (spTF CT) := by
  obtain ⟨fI, cda, cc, oc, kV, doc, pm, ct, od, an, osl, h1, h2, lk, hcd, SC⟩ := T.ex
  refine ⟨fI, _, h1, h2, SC.ox, Binds.all fun us hl => ?_, fn_sup (k := 0) (pl := fun _ => _) SC SP lk hcd sc_TextFault___init__ rfl rfl (by decide +kernel) (fun _ => rfl) (fun _ => rfl) (fun vs H Q E h => ?_) (fun A outer s H vs Q E hr h => ?_)⟩
  · exact match us, hl with | [_, _, _, _], _ => rfl
  · obtain ⟨x, l, c, r, rfl, _⟩ := h
    rfl
  obtain ⟨x, l, c, r, rfl, hx, l0, l1, c0, c1, hr, q⟩ := h
  refine ⟨_, _, pa_cons (pe_joined (PJ.cons pe_str (PJ.cons (pe_fmt (pv 1)) (PJ.cons pe_str (PJ.cons (pe_fmt (pv 2)) (PJ.cons pe_str (PJ.cons (pe_fmt (pv 3)) PJ.nil))))))) pa_nil,
    pss_cons (ps_ost (pv 0) (pv 1)) (pss_cons (ps_ost (pv 0) (pv 2)) (pss_one (ps_ost (pv 0) (pv 3)))), x, _, rfl, hx, ?_⟩
  have e1 : (Str.ofString "line ").length = 5 := by decide +kernel
  have e2 : (Str.ofString ", column ").length = 9 := by decide +kernel
  have e3 : (Str.ofString ": ").length = 2 := by decide +kernel
  have e0 : Str.empty.length = 0 := by decide +kernel
  have hl := tos_len l0 l1
  have hc := tos_len c0 c1
  have z := sizeLine_eq
  refine ⟨_, rfl, (by simp only [len_app]; omega), _, rfl, .inr ⟨_, rfl, log_lt l0 l1, _, rfl, (by simp only [len_app]; omega), ?_⟩⟩
  refine ⟨_, rfl, (by simp only [len_app]; omega), _, rfl, .inr ⟨_, rfl, log_lt c0 c1, _, rfl, (by simp only [len_app]; omega), ?_⟩⟩
  refine ⟨_, rfl, (by simp only [len_app]; omega), _, rfl, .inl ⟨_, rfl, (by omega), _, rfl, (by simp only [len_app]; omega), ?_⟩⟩
  refine ⟨by show 1 ≤ 1000; decide, hx, ?_⟩
  refine ⟨_, rfl, _, rfl, x, CT, rfl, SC.ox, T.nl, .inl ⟨hx, fun dx n ne => ?_⟩⟩
  refine ⟨_, rfl, _, rfl, x, CT, rfl, SC.ox, T.nc, .inr ⟨dx, _, upd_same, (upd_ne ne).trans upd_same, by show 1 ≤ 900; decide, ?_⟩⟩
  refine ⟨_, rfl, _, rfl, x, CT, rfl, SC.ox, T.nr, .inr ⟨dx, _, (upd_ne (Ne.symm ne)).trans upd_same, upd_same, by show 2 ≤ 900; decide, ?_⟩⟩
  exact q dx n ne
def FltE (CT : Addr) (E : XK) (S : Hp → Prop) (l c : Int) (r : Str) : Prop := ∀ d H', S H' → H' d = some (.xd (tfF l c r)) → E (.ref CT) (some d) H'
/-- the line at a, as far as r words, in the text's words -/
def colW (ws : List Str) (r : Nat) : Int := 1 + (((ws.take r).map fun w => (w.length : Int) + 1).sum)
structure LnX (C : Addr) (H : Hp) (a : Addr) (n : Int) (ws : List Str) (r : Nat) : Prop where
  ex : ∃ dx wl, H a = some (.ins C dx (lnF n wl r (colW ws r))) ∧ H wl = some (.lst (ws.map V.str))
  n0 : 0 ≤ n
  n1 : n < 1000000
  le : r ≤ ws.length
  wl : ∀ w ∈ ws, w.length ≤ 40
  sz : ws.length ≤ 2000
theorem LnX.same {C : Addr} {H H' : Hp} {a : Addr} {n : Int} {ws : List Str} {r : Nat} (h : LnX C H a n ws r) (s : Same H H') : LnX C H' a n ws r := by
  obtain ⟨dx, wl, h1, h2⟩ := h.ex
  exact ⟨⟨dx, wl, s _ _ h1, s _ _ h2⟩, h.n0, h.n1, h.le, h.wl, h.sz⟩
theorem sum_le {m : Int} : ∀ (l : List Int), (∀ x ∈ l, 0 ≤ x ∧ x ≤ m) → 0 ≤ l.sum ∧ l.sum ≤ l.length * m
  | [], _ => by simp
  | a :: r, h => by
    have h1 := h a List.mem_cons_self
    have h2 := sum_le r fun x hx => h x (List.mem_cons_of_mem _ hx)
    rw [List.sum_cons, List.length_cons, Int.natCast_add, Int.add_mul]
    omega
theorem LnX.col {C : Addr} {H : Hp} {a : Addr} {n : Int} {ws : List Str} {r : Nat} (h : LnX C H a n ws r) : 0 ≤ colW ws r ∧ colW ws r < 1000000 := by
  have h1 := sum_le (m := 41) ((ws.take r).map fun w => (w.length : Int) + 1) fun x hx => by
    obtain ⟨w, hw, rfl⟩ := List.mem_map.mp hx
    have := h.wl w (List.mem_of_mem_take hw)
    omega
  have h2 := h.sz
  rw [List.length_map, List.length_take] at h1
  unfold colW
  have h3 : ((min r ws.length : Nat) : Int) * 41 ≤ 2000 * 41 := Int.mul_le_mul_of_nonneg_right (by omega) (by decide)
  omega
theorem LnX.no {C : Addr} {H : Hp} {a : Addr} {n : Int} {ws : List Str} {r : Nat} (h : LnX C H a n ws r) {m : Str} (z1 : (m == ("number" : Str)) = false) (z2 : (m == ("words" : Str)) = false) (z3 : (m == ("read" : Str)) = false) (z4 : (m == ("column" : Str)) = false) :
    ∃ dx fs, H a = some (.ins C dx fs) ∧ fs.lookup m = none := by
  obtain ⟨dx, wl, h1, h2⟩ := h.ex
  exact ⟨dx, _, h1, lnF_no z1 z2 z3 z4⟩
def spRefuse (C CT : Addr) : Sp := fun vs H _ E => ∃ (a : Addr) (n : Int) (ws : List Str) (r : Nat) (e : Str), vs = [.ref a, .str e] ∧ LnX C H a n ws r ∧ e.length ≤ 100 ∧ FltE CT E (Same H) n (colW ws r) e
theorem d_refuse (T : TxtL K mg C) (TF : TfAt K mg CT) (SP : SupP P) (A : MAt K C "refuse" "Line.refuse" s_Line_refuse ["self", "reason"]) : MDef P w K mg base (L2N.CX P w) 3 C "refuse" ["self", "reason"] [] (spRefuse C CT) := by
  have B := T.B
  refine A.okX sc_Line_refuse (fun vs H Q E h => ?_) (fun f cdv A outer s H vs Q E hr h => ?_)
  · obtain ⟨a, n, ws, r, e, rfl, _⟩ := h
    rfl
  obtain ⟨a, n, ws, r, e, rfl, hL, he, qe⟩ := h
  obtain ⟨dx, wl, h1, h2⟩ := hL.ex
  obtain ⟨fI, fd, i1, i2, ox, bd, F1⟩ := d_TF (w := w) (base := base) (CX := CX0) TF SP
  refine ⟨_, pss_one (L2N.ps_raise rfl (L2N.takes_of rfl rfl rfl rfl) (pmkN_oex ox i1 i2 F1 (hr.mono (by omega)) bd pass0 rfl TF.g (pa_cons (pe_fld (pv 0) rfl) (pa_cons (pe_fld (pv 0) rfl) (pa_cons (pv 1) pa_nil)))))
    , ?_⟩
  obtain ⟨c0, c1⟩ := hL.col
  have n0 := hL.n0
  have n1 := hL.n1
  refine ⟨_, rfl, a, C, dx, _, _, rfl, h1, T.c_Line.cl, T.n_number, lnF_number, _, rfl, a, C, dx, _, _, rfl, h1, T.c_Line.cl, T.n_column, lnF_column, _, rfl, (by show 3 ≤ 1000; decide), fun x hx => ?_⟩
  refine ⟨x, n, colW ws r, e, rfl, upd_same, n0, by omega, c0, by omega, he, fun d hd dne => ?_⟩
  have hdH : H d = none := by rw [upd_ne dne] at hd; exact hd
  refine ⟨rfl, d, _, (upd_ne (Ne.symm dne)).trans ((upd_ne (Ne.symm dne)).trans upd_same), upd_same, hdH, qe d _ (fun b o hb => ?_) upd_same⟩
  have b1 : b ≠ x := ne_of_none hb hx
  have b2 : b ≠ d := ne_of_none hb hdH
  rw [upd_ne b2, del_ne b1, upd_ne b2, upd_ne b2, upd_ne b1, upd_ne b2, upd_ne b1]
  exact hb
end
end DP
namespace DP
open PySem PySem.Spec PyProof.Rows L2
def digC (c : Nat) : Bool := decide (c ∈ ("0123456789" : Str).cps.toList)
def letC (c : Nat) : Bool := decide (c ∈ ("abcdefghijklmnopqrstuvwxyzABCDEFGHIJKLMNOPQRSTUVWXYZ" : Str).cps.toList)
def isNumB (u : Str) : Bool := !decide (7 < u.length) && (!(decide ((tl u).head? = some 48) && !decide (u = Str.ofString "0")) && (tl u).all digC)
def isNameB (u : Str) : Bool := !decide (15 < u.length) && ((match (tl u).head? with | some d => letC d | none => false) && (tl u).all fun c => letC c || digC c)
section
variable {P : Program} {w : World} {K : PySem.W.Frag} {mg : Str → Option Value} {base : Heap} {C : Addr}
def spIsNumX : Sp := fun vs H Q _ => ∃ u : Str, vs = [.str u] ∧ u.length ≤ 100 ∧ tl u ≠ [] ∧ ∀ H', Same H H' → Q (.bl (isNumB u)) H'
theorem d_is_numberX (T : TxtL K mg C) (A : At K mg "is_number" s_is_number ["word"]) : DefOk P w K mg base CX0 1 "is_number" ["word"] spIsNumX := by
  have B := T.B
  refine A.ok sc_is_number (fun vs H Q E h => ?_) (fun f cdv A outer s H vs Q E hr h => ?_)
  · obtain ⟨n, rfl, _⟩ := h
    rfl
  obtain ⟨u, rfl, hlen, hne, q⟩ := h
  refine ⟨_, pss_cons (ps_if (PW.pt (pw_or (pt_cmpR op_gt (pe_callB (call_len_str) (by rfl) B.len (by decide +kernel) (pa_cons (pv 0) pa_nil)) (pe_gi T.g_MOST_DIGITS) (nomark _)) (pw_or1 (PW.pt (pw_and (pt_cmpR op_eq (pe_ix ix_str (pv 0) pe_int (fun _ _ => rfl)) pe_str (nomark _)) (pw_and1 (pt_cmpR op_ne (pv 0) pe_str (nomark _))))))))
      (pss_one (ps_ret pe_bl))
      (pss_nil))
  (pss_one (ps_ret (pe_callB (cr_all rfl) (by rfl) B.all (by decide +kernel) (pa_cons (pe_lc (own := [("letter", 1)])  rfl sc_is_number.nd (pi_str (pv 0)) (blkOk_by (own := [("letter", 1)]) (N := ["word", "letter"]) (sc := defScope s_is_number) (by decide +kernel)) (fun _ _ _ _ _ => pg_name (i := 1) sc_is_number.nd rfl (Or.inl rfl)) (fun _ _ _ _ _ => pts_nil) (fun _ _ _ _ _ => (pe_cmpR op_in_sign (pv 1) (pe_gs T.g_DIGITS) (by rfl)))) pa_nil))))
    , ?_⟩
  obtain ⟨d, ds, e⟩ : ∃ d ds, tl u = d :: ds := by
    cases e : tl u with
    | nil => exact absurd e hne
    | cons d ds => exact ⟨d, ds, rfl⟩
  have hd : atI u.cps.toList 0 = some d := by
    show atI (tl u) 0 = some d
    rw [e]
    exact atI_nat (j := 0) rfl
  have hz : Str.ofString "0" = ⟨#[48]⟩ := by decide +kernel
  have fin : decide (7 < u.length) = false → (decide ((⟨#[d]⟩ : Str) = Str.ofString "0") && !decide (u = Str.ofString "0")) = false → isNumB u = (tl u).all digC := fun h1 h2 => by
    have e2 : decide ((⟨#[d]⟩ : Str) = Str.ofString "0") = decide ((tl u).head? = some 48) := by
      rw [e, hz]
      exact decide_eq_decide.mpr ⟨fun z => by rw [str1_inj z]; rfl, fun z => by rw [Option.some.inj (show some d = some 48 from z)]⟩
    unfold isNumB
    rw [h1, ← e2, h2]
    rfl
  have out : (decide (7 < u.length) = true ∨ (decide ((⟨#[d]⟩ : Str) = Str.ofString "0") && !decide (u = Str.ofString "0")) = true) → isNumB u = false := fun h => by
    rcases h with h | h
    · unfold isNumB
      rw [h]
      rfl
    · have e2 : decide ((⟨#[d]⟩ : Str) = Str.ofString "0") = decide ((tl u).head? = some 48) := by
        rw [e, hz]
        exact decide_eq_decide.mpr ⟨fun z => by rw [str1_inj z]; rfl, fun z => by rw [Option.some.inj (show some d = some 48 from z)]⟩
      unfold isNumB
      rw [← e2, h, Bool.not_true, Bool.false_and, Bool.and_false]
  have more : ∀ {D : Addr} {H1 : Hp} {i : Nat} {ch : Nat}, (tl u)[i]? = some ch → H1 D = some (.lst ((((tl u).take i).map digC).map V.bl)) → ((((tl u).take i).map digC).map V.bl).length < sizeLine ∧ .lst ((((tl u).take i).map digC).map V.bl ++ [V.bl (digC ch)]) = HO.lst ((((tl u).take (i + 1)).map digC).map V.bl) := fun {D H1 i ch} h _ => by
    refine ⟨?_, ?_⟩
    · rw [List.length_map, List.length_map, List.length_take]
      have : (tl u).length ≤ 100 := by rw [← TL.len_tl]; exact hlen
      exact small1000 (by omega)
    · rw [List.take_add_one, h, List.map_append, List.map_append]
      rfl
  refine ⟨_, rfl, _, rfl, Nat.le_trans hlen (by decide), _, _, rfl, rfl, _, rfl, ite2 (fun c => ?_) (fun c => ?_)⟩
  · have c' : 7 < u.length := by have := of_decide_eq_true c; omega
    have z := q H (Same.refl _)
    rw [out (.inl (decide_eq_true c'))] at z
    exact iteT z
  have c' : decide (7 < u.length) = false := decide_eq_false fun z => c (decide_eq_true (by omega))
  refine ⟨_, rfl, _, _, d, rfl, rfl, Nat.le_trans hlen (by decide), hd, rfl, _, rfl, ite2 (fun c2 => ?_) (fun c2 => ?_)⟩
  · by_cases c3 : u = Str.ofString "0"
    · have hb : (decide ((⟨#[d]⟩ : Str) = Str.ofString "0") && !decide (u = Str.ofString "0")) = false := by rw [decide_eq_true c3, Bool.not_true, Bool.and_false]
      refine ⟨_, rfl, rfl, _, rfl, iteF' (by rw [decide_eq_true (congrArg V.str c3)]; rfl) ?_⟩
      exact ⟨_, rfl, _, rfl, fun D hD => lc_it (walk_str) (fun i H' => Same H H' ∧ H' D = some (.lst ((((tl u).take i).map digC).map V.bl))) ⟨same_new hD _, upd_same⟩ (fun _ _ _ _ => True.intro) (fun i x H1 H2 hi hI hy => by obtain ⟨rfl, ch, hch, rfl⟩ := hy; obtain ⟨hs, hDD⟩ := hI; have hch2 : (tl u)[i]? = some ch := (by rw [show tl u = u.cps.toList from rfl, Array.getElem?_toList]; exact hch); obtain ⟨m1, m2⟩ := more hch2 hDD; exact ⟨rfl, _, rfl, ch, _, rfl, rfl, _, hDD, m1, same_at hD hs _, by rw [upd_same]; exact congrArg some m2⟩) (fun H1 hI => ⟨D, (tl u).map digC, rfl, SqL.of (by have := hI.2; rw [show u.cps.size = (tl u).length from (Array.length_toList (xs := u.cps)).symm, List.take_length] at this; exact this), by have z := q H1 hI.1; rw [fin c' hb] at z; rw [List.all_map]; exact z⟩)⟩
    · refine ⟨_, rfl, rfl, _, rfl, iteT' (by rw [decide_eq_false (fun z => c3 (V.str.inj z))]; rfl) ?_⟩
      have z := q H (Same.refl _)
      have c2' : (⟨#[d]⟩ : Str) = Str.ofString "0" := V.str.inj (of_decide_eq_true c2)
      rw [out (.inr (by rw [decide_eq_true c2', decide_eq_false c3]; rfl))] at z
      exact z
  · refine iteF ?_
    have hb : (decide ((⟨#[d]⟩ : Str) = Str.ofString "0") && !decide (u = Str.ofString "0")) = false := by rw [decide_eq_false (fun z => c2 (decide_eq_true (congrArg V.str z))), Bool.false_and]
    exact ⟨_, rfl, _, rfl, fun D hD => lc_it (walk_str) (fun i H' => Same H H' ∧ H' D = some (.lst ((((tl u).take i).map digC).map V.bl))) ⟨same_new hD _, upd_same⟩ (fun _ _ _ _ => True.intro) (fun i x H1 H2 hi hI hy => by obtain ⟨rfl, ch, hch, rfl⟩ := hy; obtain ⟨hs, hDD⟩ := hI; have hch2 : (tl u)[i]? = some ch := (by rw [show tl u = u.cps.toList from rfl, Array.getElem?_toList]; exact hch); obtain ⟨m1, m2⟩ := more hch2 hDD; exact ⟨rfl, _, rfl, ch, _, rfl, rfl, _, hDD, m1, same_at hD hs _, by rw [upd_same]; exact congrArg some m2⟩) (fun H1 hI => ⟨D, (tl u).map digC, rfl, SqL.of (by have := hI.2; rw [show u.cps.size = (tl u).length from (Array.length_toList (xs := u.cps)).symm, List.take_length] at this; exact this), by have z := q H1 hI.1; rw [fin c' hb] at z; rw [List.all_map]; exact z⟩)⟩
def spIsNameX : Sp := fun vs H Q _ => ∃ u : Str, vs = [.str u] ∧ u.length ≤ 100 ∧ tl u ≠ [] ∧ ∀ H', Same H H' → Q (.bl (isNameB u)) H'
theorem d_is_nameX (T : TxtL K mg C) (A : At K mg "is_name" s_is_name ["word"]) : DefOk P w K mg base CX0 1 "is_name" ["word"] spIsNameX := by
  have B := T.B
  refine A.ok sc_is_name (fun vs H Q E h => ?_) (fun f cdv A outer s H vs Q E hr h => ?_)
  · obtain ⟨u, rfl, _⟩ := h
    rfl
  obtain ⟨u, rfl, hlen, hne, q⟩ := h
  refine ⟨_, pss_cons (ps_if (PW.pt (pw_or (pt_cmpR op_gt (pe_callB (call_len_str) (by rfl) B.len (by decide +kernel) (pa_cons (pv 0) pa_nil)) (pe_gi T.g_MOST_NAME) (nomark _)) (pw_or1 (pt_cmpR op_notIn_sign (pe_ix ix_str (pv 0) pe_int (fun _ _ => rfl)) (pe_gs T.g_LETTERS) (by rfl)))))
      (pss_one (ps_ret pe_bl))
      (pss_nil))
  (pss_one (ps_ret (pe_callB (cr_all rfl) (by rfl) B.all (by decide +kernel) (pa_cons (pe_lc (own := [("letter", 1)])  rfl sc_is_name.nd (pi_str (pv 0)) (blkOk_by (own := [("letter", 1)]) (N := ["word", "letter"]) (sc := defScope s_is_name) (by decide +kernel)) (fun _ _ _ _ _ => pg_name (i := 1) sc_is_name.nd rfl (Or.inl rfl)) (fun _ _ _ _ _ => pts_nil) (fun _ _ _ _ _ => (pe_or (pe_cmpR op_in_sign (pv 1) (pe_gs T.g_LETTERS) (by rfl)) (pe_one (pe_cmpR op_in_sign (pv 1) (pe_gs T.g_DIGITS) (by rfl)))))) pa_nil))))
    , ?_⟩
  obtain ⟨d, ds, e⟩ : ∃ d ds, tl u = d :: ds := by
    cases e : tl u with
    | nil => exact absurd e hne
    | cons d ds => exact ⟨d, ds, rfl⟩
  have hd : atI u.cps.toList 0 = some d := by
    show atI (tl u) 0 = some d
    rw [e]
    exact atI_nat (j := 0) rfl
  have more : ∀ {D : Addr} {H1 : Hp} {i : Nat} {ch : Nat}, (tl u)[i]? = some ch → H1 D = some (.lst ((((tl u).take i).map fun c => letC c || digC c).map V.bl)) → ((((tl u).take i).map fun c => letC c || digC c).map V.bl).length < sizeLine ∧ HO.lst ((((tl u).take i).map fun c => letC c || digC c).map V.bl ++ [V.bl (letC ch || digC ch)]) = HO.lst ((((tl u).take (i + 1)).map fun c => letC c || digC c).map V.bl) := fun {D H1 i ch} h _ => by
    refine ⟨?_, ?_⟩
    · rw [List.length_map, List.length_map, List.length_take]
      have : (tl u).length ≤ 100 := by rw [← TL.len_tl]; exact hlen
      exact small1000 (by omega)
    · rw [List.take_add_one, h, List.map_append, List.map_append]
      rfl
  refine ⟨_, rfl, _, rfl, Nat.le_trans hlen (by decide), _, _, rfl, rfl, _, rfl, ite2 (fun c => ?_) (fun c => ?_)⟩
  · have c' : 15 < u.length := by have := of_decide_eq_true c; omega
    have z := q H (Same.refl _)
    rw [show isNameB u = false by unfold isNameB; rw [decide_eq_true c']; rfl] at z
    exact iteT z
  have c' : decide (15 < u.length) = false := decide_eq_false fun z => c (decide_eq_true (by omega))
  refine ⟨_, rfl, _, _, d, rfl, rfl, Nat.le_trans hlen (by decide), hd, d, _, rfl, rfl, _, rfl, ?_⟩
  cases hl : letC d with
  | false =>
    refine iteT' (show (!letC d) = true by rw [hl]; rfl) ?_
    have z := q H (Same.refl _)
    rw [show isNameB u = false by unfold isNameB; rw [c', e, List.head?_cons]; dsimp only; rw [hl]; rfl] at z
    exact z
  | true =>
    refine iteF' (show (!letC d) = false by rw [hl]; rfl) ?_
    refine ⟨_, rfl, _, rfl, fun D hD => lc_it (walk_str) (fun i H' => Same H H' ∧ H' D = some (.lst ((((tl u).take i).map fun c => letC c || digC c).map V.bl))) ⟨same_new hD _, upd_same⟩ (fun _ _ _ _ => True.intro) (fun i x H1 H2 hi hI hy => ?_) (fun H1 hI => ?_)⟩
    · obtain ⟨rfl, ch, hch, rfl⟩ := hy
      obtain ⟨hs, hDD⟩ := hI
      have hch2 : (tl u)[i]? = some ch := by
        rw [show tl u = u.cps.toList from rfl, Array.getElem?_toList]
        exact hch
      obtain ⟨m1, m2⟩ := more hch2 hDD
      refine ⟨rfl, _, rfl, ch, _, rfl, rfl, _, rfl, ite2 (fun c3 => ?_) (fun c3 => ?_)⟩
      · refine ⟨_, hDD, m1, same_at hD hs _, ?_⟩
        have c4 : letC ch = true := c3
        rw [c4, Bool.true_or] at m2
        rw [upd_same, ← m2, ← c4]
      · refine ⟨_, rfl, ch, _, rfl, rfl, _, hDD, m1, same_at hD hs _, ?_⟩
        have c4 : letC ch = false := Bool.eq_false_iff.mpr c3
        rw [c4, Bool.false_or] at m2
        rw [upd_same, ← m2]
        rfl
    · have h2 := hI.2
      rw [show u.cps.size = (tl u).length from (Array.length_toList (xs := u.cps)).symm, List.take_length] at h2
      refine ⟨D, (tl u).map fun c => letC c || digC c, rfl, SqL.of h2, ?_⟩
      have z := q H1 hI.1
      rw [show isNameB u = (tl u).all fun c => letC c || digC c by unfold isNameB; rw [c', e, List.head?_cons]; dsimp only; rw [hl]; rfl] at z
      rw [List.all_map]
      exact z
end
end DP
namespace DP
open PySem PySem.Spec PyProof.Rows L2
/-- a fault: the word's place in the line, the reason -/
abbrev Er := Nat × Str
abbrev Rd (α : Type) := Except Er α
def rdDue (ws : List Str) (r : Nat) : Rd Str := match ws[r]? with
  | none => .error (r, "missing word")
  | some u => if u = Str.ofString "" then .error (r, "empty word") else .ok u
def rdChoice (ws : List Str) (r : Nat) (cs : List Str) : Rd Str := match rdDue ws r with
  | .error e => .error e
  | .ok u => if u ∈ cs then .ok u else .error (r, "unexpected word")
def numV (u : Str) : Int := (PySem.intText? u).getD 0
def rdNum (ws : List Str) (r : Nat) (lo hi : Int) : Rd Int := match rdDue ws r with
  | .error e => .error e
  | .ok u => if isNumB u = true then (if numV u < lo ∨ hi < numV u then .error (r, "number out of range") else .ok (numV u)) else .error (r, "number expected")
def rdField (ws : List Str) (r : Nat) (x : Str) (lo hi : Int) : Rd Int := match rdChoice ws r [x] with
  | .error e => .error e
  | .ok _ => rdNum ws (r + 1) lo hi
def rdDueName (ws : List Str) (r : Nat) : Rd Str := match rdDue ws r with
  | .error e => .error e
  | .ok u => if isNameB u = true then .ok u else .error (r, "name expected")
def rdNew (ws : List Str) (r : Nat) (used : List Str) : Rd Str := match rdDueName ws r with
  | .error e => .error e
  | .ok u => if u ∈ used then .error (r, "name already used") else .ok u
def idxS (u : Str) : List Str → Nat
  | [] => 0
  | a :: r => if a = u then 0 else idxS u r + 1
def rdKnown (ws : List Str) (r : Nat) (ns : List Str) (least : Int) : Rd Nat := match rdDueName ws r with
  | .error e => .error e
  | .ok u => if u ∈ ns then (if (idxS u ns : Int) < least then .error (r, "line out of order") else .ok (idxS u ns)) else .error (r, "unknown name")
def rdFinish (ws : List Str) (r : Nat) : Rd Unit := if r < ws.length then (match rdDue ws r with
  | .error e => .error e
  | .ok _ => .error (r, "unexpected word")) else .ok ()
theorem rdDue_ok {ws : List Str} {r : Nat} {u : Str} (h : rdDue ws r = .ok u) : ws[r]? = some u ∧ u ≠ Str.ofString "" := by
  unfold rdDue at h
  split at h
  · cases h
  · rename_i v e
    split at h
    · cases h
    · rename_i n
      cases h
      exact ⟨e, n⟩
theorem ne_tl {u : Str} (h : u ≠ Str.ofString "") : tl u ≠ [] := fun z => h (TL.ext_tl (show tl u = tl (Str.ofString "") by rw [z]; decide +kernel))
theorem colW_succ {ws : List Str} {r : Nat} {u : Str} (h : ws[r]? = some u) : colW ws (r + 1) = colW ws r + ((u.length : Int) + 1) := by
  unfold colW
  rw [List.take_add_one, h, List.map_append, List.sum_append]
  show 1 + (_ + ((u.length : Int) + 1 + 0)) = _
  omega
section
variable {P : Program} {w : World} {K : PySem.W.Frag} {mg : Str → Option Value} {base : Heap} {C CT : Addr}
def spHasMoreX (C : Addr) : Sp := fun vs H Q _ => ∃ (a : Addr) (n : Int) (ws : List Str) (r : Nat), vs = [.ref a] ∧ LnX C H a n ws r ∧ Q (.bl (decide (r < ws.length))) H
theorem d_has_moreX (T : TxtL K mg C) (A : MAt K C "has_more" "Line.has_more" s_Line_has_more ["self"]) : MDef P w K mg base CX0 1 C "has_more" ["self"] [] (spHasMoreX C) := by
  have B := T.B
  refine A.ok sc_Line_has_more (fun vs H Q E h => ?_) (fun f cdv A outer s H vs Q E hr h => ?_)
  · obtain ⟨a, n, ws, r, rfl, _⟩ := h
    rfl
  obtain ⟨a, n, ws, r, rfl, hL, q⟩ := h
  obtain ⟨dx, wl, h1, h2⟩ := hL.ex
  refine ⟨_, pss_one (ps_ret (pe_cmpR op_lt (pe_fld (pv 0) rfl) (pe_callB (call_len_seq) (by rfl) B.len (by decide +kernel) (pa_cons (pe_fld (pv 0) rfl) pa_nil)) (nomark _)))
    , ?_⟩
  refine ⟨_, rfl, a, C, dx, _, _, rfl, h1, T.c_Line.cl, T.n_read, lnF_read, _, rfl, a, C, dx, _, _, rfl, h1, T.c_Line.cl, T.n_words, lnF_words, wl, _, rfl, .inl (SqL.of h2), _, _, rfl, rfl, ?_⟩
  have e : decide ((r : Int) < (((ws.map V.str).length : Nat) : Int)) = decide (r < ws.length) := by
    rw [List.length_map]
    exact decide_eq_decide.mpr (by omega)
  show Q (.bl (decide ((r : Int) < (((ws.map V.str).length : Nat) : Int)))) H
  rw [e]
  exact q
def spStepX (C : Addr) : Sp := fun vs H Q _ => ∃ (a : Addr) (n : Int) (ws : List Str) (r : Nat), vs = [.ref a] ∧ LnX C H a n ws r ∧ r < ws.length ∧ ∀ H', SameX a H H' → LnX C H' a n ws (r + 1) → Q .non H'
theorem d_stepX (T : TxtL K mg C) (A : MAt K C "step" "Line.step" s_Line_step ["self"]) : MDef P w K mg base CX0 1 C "step" ["self"] [] (spStepX C) := by
  have B := T.B
  refine A.ok sc_Line_step (fun vs H Q E h => ?_) (fun f cdv A outer s H vs Q E hr h => ?_)
  · obtain ⟨a, n, ws, r, rfl, _⟩ := h
    rfl
  obtain ⟨a, n, ws, r, rfl, hL, hr', q⟩ := h
  obtain ⟨dx, wl, h1, h2⟩ := hL.ex
  have hu : ws[r]? = some ws[r] := List.getElem?_eq_getElem hr'
  have ea : wl ≠ a := ne_of h2 h1 (fun z => nomatch z)
  have hw := hL.wl _ (List.getElem_mem hr')
  refine ⟨_, pss_cons (ps_fldaug (pv 0) (pe_op op_add (pe_callB (call_len_str) (by rfl) B.len (by decide +kernel) (pa_cons (pe_ix ix_list (pe_fld (pv 0) rfl) (pe_fld (pv 0) rfl) (fun _ _ => rfl)) pa_nil)) pe_int) in_add)
  (pss_one (ps_fldaug (pv 0) pe_int in_add))
    , ?_⟩
  refine ⟨_, rfl, a, C, dx, _, _, rfl, h1, T.c_Line.cl, T.n_column, lnF_column, _, rfl, a, C, dx, _, _, rfl, h1, T.c_Line.cl, T.n_words, lnF_words, _, rfl, a, C, dx, _, _, rfl, h1, T.c_Line.cl, T.n_read, lnF_read, wl, _, _, _, rfl, rfl, SqL.of h2, map_at hu, ?_⟩
  refine ⟨_, rfl, Nat.le_trans hw (by decide), _, _, rfl, rfl, _, _, rfl, rfl, dx, _, h1, (by show 4 < 1000; decide), ?_⟩
  rw [lnF_put_column]
  refine ⟨_, rfl, a, C, dx, _, _, rfl, upd_same, T.c_Line.cl, T.n_read, lnF_read, _, _, rfl, rfl, dx, _, upd_same, (by show 4 < 1000; decide), ?_⟩
  rw [show ((r : Int) + 1) = ((r + 1 : Nat) : Int) by omega, lnF_put_read, upd_upd, ← colW_succ hu]
  exact q _ SameX.upd ⟨⟨dx, wl, upd_same, by rw [upd_ne ea]; exact h2⟩, hL.n0, hL.n1, hr', hL.wl, hL.sz⟩
/-- a fault of the line at a -/
abbrev FltX (CT : Addr) (E : XK) (a : Addr) (H : Hp) (n : Int) (ws : List Str) (e : Er) : Prop := FltE CT E (SameX a H) n (colW ws e.1) e.2
theorem FltX.on {CT : Addr} {E : XK} {a : Addr} {H H' : Hp} {n : Int} {ws : List Str} {e : Er} (h : FltX CT E a H n ws e) (s : SameX a H H') : FltX CT E a H' n ws e := fun d H2 s2 hd => h d H2 (s.trans s2) hd
theorem FltX.same {CT : Addr} {E : XK} {a : Addr} {H : Hp} {n : Int} {ws : List Str} {e : Er} (h : FltX CT E a H n ws e) : FltE CT E (Same H) n (colW ws e.1) e.2 := fun d H2 s2 hd => h d H2 (SameX.of s2) hd
def spDueX (C CT : Addr) : Sp := fun vs H Q E => ∃ (a : Addr) (n : Int) (ws : List Str) (r : Nat), vs = [.ref a] ∧ LnX C H a n ws r ∧ (∀ e, rdDue ws r = .error e → FltX CT E a H n ws e) ∧ (∀ u, rdDue ws r = .ok u → Q (.str u) H)
theorem d_dueX (T : TxtL K mg C) (D_Line_has_more : MDef P w K mg base (L2N.CX P w) 1 C "has_more" ["self"] [] (spHasMoreX C)) (D_Line_refuse : MDef P w K mg base (L2N.CX P w) 3 C "refuse" ["self", "reason"] [] (spRefuse C CT)) (A : MAt K C "due" "Line.due" s_Line_due ["self"]) : MDef P w K mg base (L2N.CX P w) 4 C "due" ["self"] [] (spDueX C CT) := by
  have B := T.B
  refine A.okX sc_Line_due (fun vs H Q E h => ?_) (fun f cdv A outer s H vs Q E hr h => ?_)
  · obtain ⟨a, n, ws, r, rfl, _⟩ := h
    rfl
  obtain ⟨a, n, ws, r, rfl, hL, qe, q⟩ := h
  obtain ⟨dx, wl, h1, h2⟩ := hL.ex
  refine ⟨_, pss_cons (ps_if (pt_not (pt_val (pe_m0 D_Line_has_more T.c_Line.cl (hr.mono (by omega)) (passOut rfl rfl rfl rfl) (pv 0))))
      (pss_one (ps_expr (pe_m D_Line_refuse T.c_Line.cl (hr.mono (by omega)) (passOut rfl rfl rfl rfl) (pv 0) (pa_cons pe_str pa_nil))))
      (pss_nil))
  (pss_cons (ps_set (i := 1) sc_Line_due.nd rfl (Or.inl rfl) (pe_ix ix_list (pe_fld (pv 0) rfl) (pe_fld (pv 0) rfl) (fun _ _ => rfl)))
  (pss_cons (ps_if (pt_cmpR op_eq (pv 1) pe_str (nomark _))
      (pss_one (ps_expr (pe_m D_Line_refuse T.c_Line.cl (hr.mono (by omega)) (passOut rfl rfl rfl rfl) (pv 0) (pa_cons pe_str pa_nil))))
      (pss_nil))
  (pss_one (ps_ret (pv 1)))))
    , ?_⟩
  refine ⟨_, rfl, a, dx, _, rfl, h1, lnF_no (by decide +kernel) (by decide +kernel) (by decide +kernel) (by decide +kernel), a, n, ws, r, rfl, hL, _, rfl, ?_⟩
  by_cases hr' : r < ws.length
  · have hu : ws[r]? = some ws[r] := List.getElem?_eq_getElem hr'
    refine iteF' (by rw [decide_eq_true hr']; rfl) ?_
    refine ⟨_, rfl, a, C, dx, _, _, rfl, h1, T.c_Line.cl, T.n_words, lnF_words, _, rfl, a, C, dx, _, _, rfl, h1, T.c_Line.cl, T.n_read, lnF_read, wl, _, _, _, rfl, rfl, SqL.of h2, map_at hu, ?_⟩
    by_cases hz : ws[r] = Str.ofString ""
    · have er : rdDue ws r = .error (r, "empty word") := by unfold rdDue; rw [hu]; dsimp only; rw [if_pos hz]
      refine ⟨_, rfl, rfl, _, rfl, iteT' (decide_eq_true (congrArg V.str hz)) ?_⟩
      exact ⟨_, rfl, a, dx, _, rfl, h1, lnF_no (by decide +kernel) (by decide +kernel) (by decide +kernel) (by decide +kernel), a, n, ws, r, _, rfl, hL, by decide +kernel, (qe _ er).same⟩
    · have er : rdDue ws r = .ok ws[r] := by unfold rdDue; rw [hu]; dsimp only; rw [if_neg hz]
      refine ⟨_, rfl, rfl, _, rfl, iteF' (decide_eq_false fun z => hz (V.str.inj z)) ?_⟩
      exact ⟨_, rfl, q _ er⟩
  · have er : rdDue ws r = .error (r, "missing word") := by unfold rdDue; rw [List.getElem?_eq_none (by omega)]
    refine iteT' (by rw [decide_eq_false hr']; rfl) ?_
    exact ⟨_, rfl, a, dx, _, rfl, h1, lnF_no (by decide +kernel) (by decide +kernel) (by decide +kernel) (by decide +kernel), a, n, ws, r, _, rfl, hL, by decide +kernel, (qe _ er).same⟩
theorem LnX.at {H : Hp} {a : Addr} {n : Int} {ws : List Str} {r : Nat} {u : Str} (_ : LnX C H a n ws r) (h : rdDue ws r = .ok u) : r < ws.length := (List.getElem?_eq_some_iff.mp (rdDue_ok h).1).1
def spChoiceX (K : PySem.W.Frag) (C CT : Addr) : Sp := fun vs H Q E => ∃ (a : Addr) (n : Int) (ws : List Str) (r : Nat) (t : Addr) (cs : List Str), vs = [.ref a, .ref t] ∧ LnX C H a n ws r ∧ SqT K H t (cs.map V.str) ∧ (∀ e, rdChoice ws r cs = .error e → FltX CT E a H n ws e) ∧
  ∀ u, rdChoice ws r cs = .ok u → ∀ H', SameX a H H' → LnX C H' a n ws (r + 1) → Q (.str u) H'
theorem d_read_choiceX (T : TxtL K mg C) (D_Line_due : MDef P w K mg base (L2N.CX P w) 4 C "due" ["self"] [] (spDueX C CT)) (D_Line_refuse : MDef P w K mg base (L2N.CX P w) 3 C "refuse" ["self", "reason"] [] (spRefuse C CT)) (D_Line_step : MDef P w K mg base (L2N.CX P w) 1 C "step" ["self"] [] (spStepX C))
    (A : MAt K C "read_choice" "Line.read_choice" s_Line_read_choice ["self", "choices"]) : MDef P w K mg base (L2N.CX P w) 5 C "read_choice" ["self", "choices"] [] (spChoiceX K C CT) := by
  have B := T.B
  refine A.okX sc_Line_read_choice (fun vs H Q E h => ?_) (fun f cdv A outer s H vs Q E hr h => ?_)
  · obtain ⟨a, n, ws, r, t, cs, rfl, _⟩ := h
    rfl
  obtain ⟨a, n, ws, r, t, cs, rfl, hL, hT, qe, q⟩ := h
  refine ⟨_, pss_cons (ps_set (i := 2) sc_Line_read_choice.nd rfl (Or.inl rfl) (pe_m0 D_Line_due T.c_Line.cl (hr.mono (by omega)) (passOut rfl rfl rfl rfl) (pv 0)))
  (pss_cons (ps_if (pt_cmpR op_notIn_seq (pv 2) (pv 1) (by rfl))
      (pss_one (ps_expr (pe_m D_Line_refuse T.c_Line.cl (hr.mono (by omega)) (passOut rfl rfl rfl rfl) (pv 0) (pa_cons pe_str pa_nil))))
      (pss_nil))
  (pss_cons (ps_expr (pe_m0 D_Line_step T.c_Line.cl (hr.mono (by omega)) (passOut rfl rfl rfl rfl) (pv 0)))
  (pss_one (ps_ret (pv 2)))))
    , ?_⟩
  obtain ⟨_, _, g0, z0⟩ := LnX.no hL (m := "due") (by decide +kernel) (by decide +kernel) (by decide +kernel) (by decide +kernel)
  refine ⟨_, rfl, a, _, _, rfl, g0, z0, a, n, ws, r, rfl, hL, fun e he => qe e (by unfold rdChoice; rw [he]), fun u hu => ?_⟩
  refine ⟨_, rfl, _, rfl, t, _, rfl, .inr hT, rfl, flat_strs, _, rfl, ?_⟩
  by_cases hc : u ∈ cs
  · refine iteF' (by rw [inV_str, decide_eq_true hc]; rfl) ?_
    obtain ⟨_, _, g1, z1⟩ := LnX.no hL (m := "step") (by decide +kernel) (by decide +kernel) (by decide +kernel) (by decide +kernel)
    refine ⟨_, rfl, a, _, _, rfl, g1, z1, a, n, ws, r, rfl, hL, hL.at hu, fun H' s' L' => ?_⟩
    exact ⟨_, rfl, q u (by unfold rdChoice; rw [hu]; dsimp only; rw [if_pos hc]) H' s' L'⟩
  · refine iteT' (by rw [inV_str, decide_eq_false hc]; rfl) ?_
    (obtain ⟨_, _, g1, z1⟩ := LnX.no hL (m := "refuse") (by decide +kernel) (by decide +kernel) (by decide +kernel) (by decide +kernel); exact ⟨_, rfl, a, _, _, rfl, g1, z1, a, n, ws, r, _, rfl, hL, by decide +kernel, (qe _ (by unfold rdChoice; rw [hu]; dsimp only; rw [if_neg hc])).same⟩)
end
end DP
namespace DP
open PySem PySem.Spec PyProof.Rows L2
theorem digC_lt {c : Nat} (h : digC c = true) : 48 ≤ c ∧ c ≤ 57 := by
  have all : ∀ d ∈ ("0123456789" : Str).cps.toList, 48 ≤ d ∧ d ≤ 57 := by decide +kernel
  exact all c (of_decide_eq_true h)
theorem digC_of {c : Nat} (h : 48 ≤ c ∧ c ≤ 57) : digC c = true := decide_eq_true (dig_in h)
/-- digits without a 0 ahead are a number's text -/
theorem numL_of : ∀ (k : Nat) (ds : List Nat), ds.length = k → ds ≠ [] → (∀ c ∈ ds, 48 ≤ c ∧ c ≤ 57) → (ds.head? = some 48 → ds = [48]) → ∃ m, TL.numL m = ds := by
  intro k
  induction k using Nat.strongRecOn with
  | _ k ih =>
    intro ds hk hne hd h0
    have hsp := List.dropLast_concat_getLast hne
    have hl := hd (ds.getLast hne) (List.getLast_mem hne)
    by_cases c : ds.dropLast = []
    · rw [c, List.nil_append] at hsp
      refine ⟨ds.getLast hne - 48, ?_⟩
      rw [TL.numL_lt (by omega), show 48 + (ds.getLast hne - 48) = ds.getLast hne by omega]
      exact hsp
    · have hh : ds.head? = ds.dropLast.head? := by
        cases q : ds.dropLast with
        | nil => exact absurd q c
        | cons x y =>
          rw [q] at hsp
          rw [← hsp]
          rfl
      have h1 : ds.dropLast.length < k := by
        rw [List.length_dropLast, hk]
        have : 0 < ds.length := List.length_pos_iff.mpr hne
        omega
      have h2 : ds.head? ≠ some 48 := fun z => by
        have e := h0 z
        rw [e] at c
        exact c rfl
      obtain ⟨m, hm⟩ := ih _ h1 ds.dropLast rfl c (fun x hx => hd x (List.dropLast_subset _ hx)) (fun z => absurd (hh.trans z) h2)
      have m0 : m ≠ 0 := fun z => by
        rw [z] at hm
        have e : TL.numL 0 = [48] := by rw [TL.numL_lt (by decide)]
        rw [e] at hm
        exact h2 (by rw [hh, ← hm]; rfl)
      refine ⟨10 * m + (ds.getLast hne - 48), ?_⟩
      rw [TL.numL_step (by omega), show (10 * m + (ds.getLast hne - 48)) / 10 = m by omega, show (10 * m + (ds.getLast hne - 48)) % 10 = ds.getLast hne - 48 by omega, hm]
      conv => rhs; rw [← hsp]
      congr 2
      omega
theorem numL_small {m k : Nat} (hk : 0 < k) (h : (TL.numL m).length ≤ k) : m < 10 ^ k := by
  induction k generalizing m with
  | zero => omega
  | succ j ih =>
    by_cases c : m < 10
    · have : 10 ^ 1 ≤ 10 ^ (j + 1) := Nat.pow_le_pow_right (by decide) (by omega)
      omega
    · rw [TL.numL_step (by omega), List.length_append, List.length_singleton] at h
      have hj : 0 < j := by
        rcases Nat.eq_zero_or_pos j with z | z
        · subst z
          have : TL.numL (m / 10) = [] := List.eq_nil_of_length_eq_zero (by omega)
          exact absurd this (TL.numL_ne _)
        · exact z
      have := ih hj (m := m / 10) (by omega)
      rw [Nat.pow_succ]
      omega
theorem isNumB_num {u : Str} (hne : tl u ≠ []) (h : isNumB u = true) : ∃ m : Int, 0 ≤ m ∧ m < 10000000 ∧ u = num m := by
  unfold isNumB at h
  rw [Bool.and_eq_true, Bool.and_eq_true] at h
  obtain ⟨h1, h2, h3⟩ := h
  have hl : u.length ≤ 7 := by
    rw [Bool.not_eq_true', decide_eq_false_iff_not] at h1
    omega
  obtain ⟨m, hm⟩ := numL_of _ (tl u) rfl hne (fun c hc => digC_lt (List.all_eq_true.mp h3 c hc)) (fun z => by
    rw [Bool.not_eq_true', Bool.and_eq_false_iff, decide_eq_false_iff_not, Bool.not_eq_false', decide_eq_true_eq] at h2
    rcases h2 with h2 | h2
    · exact absurd z h2
    · rw [h2]
      decide +kernel)
  have hm7 : m < 10000000 := by
    have hl' : (tl u).length ≤ 7 := by rw [← TL.len_tl]; exact hl
    rw [← hm] at hl'
    exact numL_small (k := 7) (by decide) hl'
  refine ⟨(m : Int), by omega, by omega, TL.ext_tl ?_⟩
  show tl u = tl (num (m : Int))
  rw [num_nat (by omega), Int.toNat_natCast, hm]
theorem numV_num {m : Int} (h0 : 0 ≤ m) (h1 : m < 10000000) : numV (num m) = m := by
  unfold numV
  rw [(int_of_num h0 h1).1]
  rfl
theorem isNumB_of {m : Int} (h0 : 0 ≤ m) (h1 : m < 10000000) : isNumB (num m) = true := by
  have htl := num_nat h0
  have hlen : (num m).length ≤ 7 := by
    rw [TL.len_tl, show TL.tl (num m) = tl (num m) from rfl, htl]
    exact numL_len7 (by omega)
  unfold isNumB
  rw [Bool.and_eq_true, Bool.and_eq_true]
  refine ⟨by rw [decide_eq_false (by omega)]; rfl, ?_, List.all_eq_true.mpr fun c hc => ?_⟩
  · by_cases c : (tl (num m)).head? = some 48
    · have e : m = 0 := by
        rw [htl] at c
        cases q : TL.numL m.toNat with
        | nil => exact absurd q (TL.numL_ne _)
        | cons a b =>
          rw [q] at c
          have ea : a = 48 := Option.some.inj c
          have := numL_head b (by rw [q, ea])
          omega
      rw [e]
      decide +kernel
    · rw [decide_eq_false c]
      rfl
  · rw [htl] at hc
    exact digC_of (TL.numL_digits _ c hc)
section
variable {P : Program} {w : World} {K : PySem.W.Frag} {mg : Str → Option Value} {base : Heap} {C CT : Addr}
theorem LnX.wlen {H : Hp} {a : Addr} {n : Int} {ws : List Str} {r : Nat} {u : Str} (h : LnX C H a n ws r) (hu : rdDue ws r = .ok u) : u.length ≤ 100 := Nat.le_trans (h.wl u (List.mem_of_getElem? (rdDue_ok hu).1)) (by decide)
def spNumberX (C CT : Addr) : Sp := fun vs H Q E => ∃ (a : Addr) (n : Int) (ws : List Str) (r : Nat) (lo hi : Int), vs = [.ref a, .int lo, .int hi] ∧ LnX C H a n ws r ∧ (∀ e, rdNum ws r lo hi = .error e → FltX CT E a H n ws e) ∧
  ∀ m, rdNum ws r lo hi = .ok m → ∀ H', SameX a H H' → LnX C H' a n ws (r + 1) → Q (.int m) H'
theorem d_read_numberX (T : TxtL K mg C) (D_is_number : DefOk P w K mg base (L2N.CX P w) 1 "is_number" ["word"] spIsNumX) (D_Line_due : MDef P w K mg base (L2N.CX P w) 4 C "due" ["self"] [] (spDueX C CT)) (D_Line_refuse : MDef P w K mg base (L2N.CX P w) 3 C "refuse" ["self", "reason"] [] (spRefuse C CT)) (D_Line_step : MDef P w K mg base (L2N.CX P w) 1 C "step" ["self"] [] (spStepX C))
    (A : MAt K C "read_number" "Line.read_number" s_Line_read_number ["self", "least", "most"]) : MDef P w K mg base (L2N.CX P w) 5 C "read_number" ["self", "least", "most"] [] (spNumberX C CT) := by
  have B := T.B
  refine A.okX sc_Line_read_number (fun vs H Q E h => ?_) (fun f cdv A outer s H vs Q E hr h => ?_)
  · obtain ⟨a, n, ws, r, lo, hi, rfl, _⟩ := h
    rfl
  obtain ⟨a, n, ws, r, lo, hi, rfl, hL, qe, q⟩ := h
  refine ⟨_, pss_cons (ps_set (i := 3) sc_Line_read_number.nd rfl (Or.inl rfl) (pe_m0 D_Line_due T.c_Line.cl (hr.mono (by omega)) (passOut rfl rfl rfl rfl) (pv 0)))
  (pss_cons (ps_if (pt_not (pt_val (pe_f D_is_number (hr.mono (by omega)) (passOut rfl rfl rfl rfl) (pa_cons (pv 3) pa_nil))))
      (pss_one (ps_expr (pe_m D_Line_refuse T.c_Line.cl (hr.mono (by omega)) (passOut rfl rfl rfl rfl) (pv 0) (pa_cons pe_str pa_nil))))
      (pss_nil))
  (pss_cons (ps_set (i := 4) sc_Line_read_number.nd rfl (Or.inl rfl) (pe_callTy (call_int_str) (by rfl) B.int (by decide +kernel) (pa_cons (pv 3) pa_nil)))
  (pss_cons (ps_if (PW.pt (pw_or (pt_cmpR op_lt (pv 4) (pv 1) (nomark _)) (pw_or1 (pt_cmpR op_gt (pv 4) (pv 2) (nomark _)))))
      (pss_one (ps_expr (pe_m D_Line_refuse T.c_Line.cl (hr.mono (by omega)) (passOut rfl rfl rfl rfl) (pv 0) (pa_cons pe_str pa_nil))))
      (pss_nil))
  (pss_cons (ps_expr (pe_m0 D_Line_step T.c_Line.cl (hr.mono (by omega)) (passOut rfl rfl rfl rfl) (pv 0)))
  (pss_one (ps_ret (pv 4)))))))
    , ?_⟩
  obtain ⟨_, _, g0, z0⟩ := LnX.no hL (m := "due") (by decide +kernel) (by decide +kernel) (by decide +kernel) (by decide +kernel)
  refine ⟨_, rfl, a, _, _, rfl, g0, z0, a, n, ws, r, rfl, hL, fun e he => qe e (by unfold rdNum; rw [he]), fun u hu => ?_⟩
  have hne := ne_tl (rdDue_ok hu).2
  refine ⟨_, rfl, u, rfl, hL.wlen hu, hne, fun H1 s1 => ⟨_, rfl, ?_⟩⟩
  have L1 := hL.same s1
  cases hb : isNumB u with
  | false =>
    refine iteT ?_
    (obtain ⟨_, _, g1, z1⟩ := LnX.no L1 (m := "refuse") (by decide +kernel) (by decide +kernel) (by decide +kernel) (by decide +kernel); exact ⟨_, rfl, a, _, _, rfl, g1, z1, a, n, ws, r, _, rfl, L1, by decide +kernel, ((qe _ (by unfold rdNum; rw [hu]; dsimp only; rw [hb, if_neg Bool.false_ne_true])).on (SameX.of s1)).same⟩)
  | true =>
    refine iteF ?_
    obtain ⟨m, m0, m1, hm⟩ := isNumB_num hne hb
    obtain ⟨i1, i2⟩ := int_of_num m0 m1
    have hv : numV u = m := by rw [hm]; exact numV_num m0 m1
    refine ⟨_, rfl, u, m, rfl, by rw [hm]; exact i1, by rw [hm]; exact i2, ?_⟩
    refine ⟨_, rfl, _, rfl, _, _, rfl, rfl, _, rfl, ite2 (fun c => ?_) (fun c => ?_)⟩
    · refine iteT ?_
      have c1 : m < lo := of_decide_eq_true c
      (obtain ⟨_, _, g1, z1⟩ := LnX.no L1 (m := "refuse") (by decide +kernel) (by decide +kernel) (by decide +kernel) (by decide +kernel); exact ⟨_, rfl, a, _, _, rfl, g1, z1, a, n, ws, r, _, rfl, L1, by decide +kernel, ((qe _ (by unfold rdNum; rw [hu]; dsimp only; rw [hb, if_pos rfl, hv, if_pos (Or.inl c1)])).on (SameX.of s1)).same⟩)
    refine ⟨_, rfl, _, rfl, _, _, rfl, rfl, _, rfl, ite2 (fun c2 => ?_) (fun c2 => ?_)⟩
    · have c3 : hi < m := by have := of_decide_eq_true c2; omega
      (obtain ⟨_, _, g1, z1⟩ := LnX.no L1 (m := "refuse") (by decide +kernel) (by decide +kernel) (by decide +kernel) (by decide +kernel); exact ⟨_, rfl, a, _, _, rfl, g1, z1, a, n, ws, r, _, rfl, L1, by decide +kernel, ((qe _ (by unfold rdNum; rw [hu]; dsimp only; rw [hb, if_pos rfl, hv, if_pos (Or.inr c3)])).on (SameX.of s1)).same⟩)
    have d1 : ¬ m < lo := fun z => c (decide_eq_true z)
    have d2 : ¬ hi < m := fun z => c2 (decide_eq_true (by omega))
    obtain ⟨_, _, g1, z1⟩ := LnX.no L1 (m := "step") (by decide +kernel) (by decide +kernel) (by decide +kernel) (by decide +kernel)
    refine ⟨_, rfl, a, _, _, rfl, g1, z1, a, n, ws, r, rfl, L1, hL.at hu, fun H' s' L' => ?_⟩
    exact ⟨_, rfl, q m (by unfold rdNum; rw [hu]; dsimp only; rw [hb, if_pos rfl, hv, if_neg (fun z => z.elim d1 d2)]) H' ((SameX.of s1).trans s') L'⟩
def spFieldX (C CT : Addr) : Sp := fun vs H Q E => ∃ (a : Addr) (n : Int) (ws : List Str) (r : Nat) (x : Str) (lo hi : Int), vs = [.ref a, .str x, .int lo, .int hi] ∧ LnX C H a n ws r ∧ (∀ e, rdField ws r x lo hi = .error e → FltX CT E a H n ws e) ∧
  ∀ m, rdField ws r x lo hi = .ok m → ∀ H', SameX a H H' → LnX C H' a n ws (r + 2) → Q (.int m) H'
theorem d_read_fieldX (T : TxtL K mg C) (D_Line_read_choice : MDef P w K mg base (L2N.CX P w) 5 C "read_choice" ["self", "choices"] [] (spChoiceX K C CT)) (D_Line_read_number : MDef P w K mg base (L2N.CX P w) 5 C "read_number" ["self", "least", "most"] [] (spNumberX C CT))
    (A : MAt K C "read_field" "Line.read_field" s_Line_read_field ["self", "word", "least", "most"]) : MDef P w K mg base (L2N.CX P w) 6 C "read_field" ["self", "word", "least", "most"] [] (spFieldX C CT) := by
  have B := T.B
  refine A.okX sc_Line_read_field (fun vs H Q E h => ?_) (fun f cdv A outer s H vs Q E hr h => ?_)
  · obtain ⟨a, n, ws, r, x, lo, hi, rfl, _⟩ := h
    rfl
  obtain ⟨a, n, ws, r, x, lo, hi, rfl, hL, qe, q⟩ := h
  refine ⟨_, pss_cons (ps_expr (pe_m D_Line_read_choice T.c_Line.cl (hr.mono (by omega)) (passOut rfl rfl rfl rfl) (pv 0) (pa_cons (pe_tup (pa_cons (pv 1) pa_nil)) pa_nil)))
  (pss_one (ps_ret (pe_m D_Line_read_number T.c_Line.cl (hr.mono (by omega)) (passOut rfl rfl rfl rfl) (pv 0) (pa_cons (pv 2) (pa_cons (pv 3) pa_nil)))))
    , ?_⟩
  obtain ⟨_, _, g0, z0⟩ := LnX.no hL (m := "read_choice") (by decide +kernel) (by decide +kernel) (by decide +kernel) (by decide +kernel)
  refine ⟨_, rfl, a, _, _, rfl, g0, z0, _, rfl, (by show 1 ≤ sizeLine; decide), fun t ht => ?_⟩
  have s1 : Same H (upd H t (.tup [.str x])) := same_new ht _
  refine ⟨a, n, ws, r, t, [x], rfl, hL.same s1, SqT.of upd_same, fun e he => (qe e (by unfold rdField; rw [he])).on (SameX.of s1), fun u hu H2 s2 L2 => ?_⟩
  have s02 := (SameX.of s1).trans s2
  obtain ⟨_, _, g1, z1⟩ := LnX.no L2 (m := "read_number") (by decide +kernel) (by decide +kernel) (by decide +kernel) (by decide +kernel)
  refine ⟨_, rfl, a, _, _, rfl, g1, z1, _, rfl, _, rfl, a, n, ws, r + 1, lo, hi, rfl, L2, fun e he => (qe e (by unfold rdField; rw [hu]; exact he)).on s02, fun m hm H3 s3 L3 => ?_⟩
  exact q m (by unfold rdField; rw [hu]; exact hm) H3 (s02.trans s3) L3
def spDueNameX (C CT : Addr) : Sp := fun vs H Q E => ∃ (a : Addr) (n : Int) (ws : List Str) (r : Nat), vs = [.ref a] ∧ LnX C H a n ws r ∧ (∀ e, rdDueName ws r = .error e → FltX CT E a H n ws e) ∧ (∀ u, rdDueName ws r = .ok u → ∀ H', Same H H' → Q (.str u) H')
theorem d_due_nameX (T : TxtL K mg C) (D_is_name : DefOk P w K mg base (L2N.CX P w) 1 "is_name" ["word"] spIsNameX) (D_Line_due : MDef P w K mg base (L2N.CX P w) 4 C "due" ["self"] [] (spDueX C CT)) (D_Line_refuse : MDef P w K mg base (L2N.CX P w) 3 C "refuse" ["self", "reason"] [] (spRefuse C CT))
    (A : MAt K C "due_name" "Line.due_name" s_Line_due_name ["self"]) : MDef P w K mg base (L2N.CX P w) 5 C "due_name" ["self"] [] (spDueNameX C CT) := by
  have B := T.B
  refine A.okX sc_Line_due_name (fun vs H Q E h => ?_) (fun f cdv A outer s H vs Q E hr h => ?_)
  · obtain ⟨a, n, ws, r, rfl, _⟩ := h
    rfl
  obtain ⟨a, n, ws, r, rfl, hL, qe, q⟩ := h
  refine ⟨_, pss_cons (ps_set (i := 1) sc_Line_due_name.nd rfl (Or.inl rfl) (pe_m0 D_Line_due T.c_Line.cl (hr.mono (by omega)) (passOut rfl rfl rfl rfl) (pv 0)))
  (pss_cons (ps_if (pt_not (pt_val (pe_f D_is_name (hr.mono (by omega)) (passOut rfl rfl rfl rfl) (pa_cons (pv 1) pa_nil))))
      (pss_one (ps_expr (pe_m D_Line_refuse T.c_Line.cl (hr.mono (by omega)) (passOut rfl rfl rfl rfl) (pv 0) (pa_cons pe_str pa_nil))))
      (pss_nil))
  (pss_one (ps_ret (pv 1))))
    , ?_⟩
  obtain ⟨_, _, g0, z0⟩ := LnX.no hL (m := "due") (by decide +kernel) (by decide +kernel) (by decide +kernel) (by decide +kernel)
  refine ⟨_, rfl, a, _, _, rfl, g0, z0, a, n, ws, r, rfl, hL, fun e he => qe e (by unfold rdDueName; rw [he]), fun u hu => ?_⟩
  refine ⟨_, rfl, u, rfl, hL.wlen hu, ne_tl (rdDue_ok hu).2, fun H1 s1 => ⟨_, rfl, ?_⟩⟩
  have L1 := hL.same s1
  cases hb : isNameB u with
  | false =>
    refine iteT ?_
    (obtain ⟨_, _, g1, z1⟩ := LnX.no L1 (m := "refuse") (by decide +kernel) (by decide +kernel) (by decide +kernel) (by decide +kernel); exact ⟨_, rfl, a, _, _, rfl, g1, z1, a, n, ws, r, _, rfl, L1, by decide +kernel, ((qe _ (by unfold rdDueName; rw [hu]; dsimp only; rw [hb, if_neg Bool.false_ne_true])).on (SameX.of s1)).same⟩)
  | true =>
    refine iteF ⟨_, rfl, q u (by unfold rdDueName; rw [hu]; dsimp only; rw [hb, if_pos rfl]) H1 s1⟩
theorem rdDueName_at {ws : List Str} {r : Nat} {u : Str} (h : rdDueName ws r = .ok u) : r < ws.length := by
  unfold rdDueName at h
  split at h
  · cases h
  · rename_i v e
    exact (List.getElem?_eq_some_iff.mp (rdDue_ok e).1).1
def spNewNameX (K : PySem.W.Frag) (C CT : Addr) : Sp := fun vs H Q E => ∃ (a : Addr) (n : Int) (ws : List Str) (r : Nat) (p : Addr) (ns : List Str), vs = [.ref a, .ref p] ∧ LnX C H a n ws r ∧ SqL K H p (ns.map V.str) ∧ (∀ e, rdNew ws r ns = .error e → FltX CT E a H n ws e) ∧
  ∀ u, rdNew ws r ns = .ok u → ∀ H', SameX a H H' → LnX C H' a n ws (r + 1) → Q (.str u) H'
theorem d_read_new_nameX (T : TxtL K mg C) (D_Line_due_name : MDef P w K mg base (L2N.CX P w) 5 C "due_name" ["self"] [] (spDueNameX C CT)) (D_Line_refuse : MDef P w K mg base (L2N.CX P w) 3 C "refuse" ["self", "reason"] [] (spRefuse C CT)) (D_Line_step : MDef P w K mg base (L2N.CX P w) 1 C "step" ["self"] [] (spStepX C))
    (A : MAt K C "read_new_name" "Line.read_new_name" s_Line_read_new_name ["self", "used"]) : MDef P w K mg base (L2N.CX P w) 6 C "read_new_name" ["self", "used"] [] (spNewNameX K C CT) := by
  have B := T.B
  refine A.okX sc_Line_read_new_name (fun vs H Q E h => ?_) (fun f cdv A outer s H vs Q E hr h => ?_)
  · obtain ⟨a, n, ws, r, p, ns, rfl, _⟩ := h
    rfl
  obtain ⟨a, n, ws, r, p, ns, rfl, hL, hP, qe, q⟩ := h
  refine ⟨_, pss_cons (ps_set (i := 2) sc_Line_read_new_name.nd rfl (Or.inl rfl) (pe_m0 D_Line_due_name T.c_Line.cl (hr.mono (by omega)) (passOut rfl rfl rfl rfl) (pv 0)))
  (pss_cons (ps_if (pt_cmpR op_in_seq (pv 2) (pv 1) (by rfl))
      (pss_one (ps_expr (pe_m D_Line_refuse T.c_Line.cl (hr.mono (by omega)) (passOut rfl rfl rfl rfl) (pv 0) (pa_cons pe_str pa_nil))))
      (pss_nil))
  (pss_cons (ps_expr (pe_m0 D_Line_step T.c_Line.cl (hr.mono (by omega)) (passOut rfl rfl rfl rfl) (pv 0)))
  (pss_one (ps_ret (pv 2)))))
    , ?_⟩
  obtain ⟨_, _, g0, z0⟩ := LnX.no hL (m := "due_name") (by decide +kernel) (by decide +kernel) (by decide +kernel) (by decide +kernel)
  refine ⟨_, rfl, a, _, _, rfl, g0, z0, a, n, ws, r, rfl, hL, fun e he => qe e (by unfold rdNew; rw [he]), fun u hu H1 s1 => ?_⟩
  have L1 := hL.same s1
  refine ⟨_, rfl, _, rfl, p, _, rfl, .inl (s1.seq hP), rfl, flat_strs, _, rfl, ?_⟩
  by_cases hc : u ∈ ns
  · refine iteT' (by rw [inV_str, decide_eq_true hc]; rfl) ?_
    (obtain ⟨_, _, g1, z1⟩ := LnX.no L1 (m := "refuse") (by decide +kernel) (by decide +kernel) (by decide +kernel) (by decide +kernel); exact ⟨_, rfl, a, _, _, rfl, g1, z1, a, n, ws, r, _, rfl, L1, by decide +kernel, ((qe _ (by unfold rdNew; rw [hu]; dsimp only; rw [if_pos hc])).on (SameX.of s1)).same⟩)
  · refine iteF' (by rw [inV_str, decide_eq_false hc]; rfl) ?_
    obtain ⟨_, _, g1, z1⟩ := LnX.no L1 (m := "step") (by decide +kernel) (by decide +kernel) (by decide +kernel) (by decide +kernel)
    refine ⟨_, rfl, a, _, _, rfl, g1, z1, a, n, ws, r, rfl, L1, rdDueName_at hu, fun H' s' L' => ?_⟩
    exact ⟨_, rfl, q u (by unfold rdNew; rw [hu]; dsimp only; rw [if_neg hc]) H' ((SameX.of s1).trans s') L'⟩
def spFinishX (C CT : Addr) : Sp := fun vs H Q E => ∃ (a : Addr) (n : Int) (ws : List Str) (r : Nat), vs = [.ref a] ∧ LnX C H a n ws r ∧ (∀ e, rdFinish ws r = .error e → FltX CT E a H n ws e) ∧ (rdFinish ws r = .ok () → Q .non H)
theorem d_finishX (T : TxtL K mg C) (D_Line_has_more : MDef P w K mg base (L2N.CX P w) 1 C "has_more" ["self"] [] (spHasMoreX C)) (D_Line_due : MDef P w K mg base (L2N.CX P w) 4 C "due" ["self"] [] (spDueX C CT)) (D_Line_refuse : MDef P w K mg base (L2N.CX P w) 3 C "refuse" ["self", "reason"] [] (spRefuse C CT)) (A : MAt K C "finish" "Line.finish" s_Line_finish ["self"]) : MDef P w K mg base (L2N.CX P w) 5 C "finish" ["self"] [] (spFinishX C CT) := by
  have B := T.B
  refine A.okX sc_Line_finish (fun vs H Q E h => ?_) (fun f cdv A outer s H vs Q E hr h => ?_)
  · obtain ⟨a, n, ws, r, rfl, _⟩ := h
    rfl
  obtain ⟨a, n, ws, r, rfl, hL, qe, q⟩ := h
  refine ⟨_, pss_one (ps_if (pt_val (pe_m0 D_Line_has_more T.c_Line.cl (hr.mono (by omega)) (passOut rfl rfl rfl rfl) (pv 0)))
      (pss_cons (ps_expr (pe_m0 D_Line_due T.c_Line.cl (hr.mono (by omega)) (passOut rfl rfl rfl rfl) (pv 0)))
      (pss_one (ps_expr (pe_m D_Line_refuse T.c_Line.cl (hr.mono (by omega)) (passOut rfl rfl rfl rfl) (pv 0) (pa_cons pe_str pa_nil)))))
      (pss_nil))
    , ?_⟩
  obtain ⟨_, _, g0, z0⟩ := LnX.no hL (m := "has_more") (by decide +kernel) (by decide +kernel) (by decide +kernel) (by decide +kernel)
  refine ⟨_, rfl, a, _, _, rfl, g0, z0, a, n, ws, r, rfl, hL, _, rfl, ?_⟩
  by_cases c : r < ws.length
  · refine iteT' (decide_eq_true c) ?_
    obtain ⟨_, _, g1, z1⟩ := LnX.no hL (m := "due") (by decide +kernel) (by decide +kernel) (by decide +kernel) (by decide +kernel)
    refine ⟨_, rfl, a, _, _, rfl, g1, z1, a, n, ws, r, rfl, hL, fun e he => qe e (by unfold rdFinish; rw [if_pos c, he]), fun u hu => ?_⟩
    (obtain ⟨_, _, g2, z2⟩ := LnX.no hL (m := "refuse") (by decide +kernel) (by decide +kernel) (by decide +kernel) (by decide +kernel); exact ⟨_, rfl, a, _, _, rfl, g2, z2, a, n, ws, r, _, rfl, hL, by decide +kernel, (qe _ (by unfold rdFinish; rw [if_pos c, hu])).same⟩)
  · exact iteF' (decide_eq_false c) (q (by unfold rdFinish; rw [if_neg c]))
theorem MAtD.okX {m qual : Str} {st : Stmt} {ps N : List Str} {k : Nat} {sp : Sp} {ds : List V} (F : MAtD K C m qual st ps ds) (S : FnScope N ps (defScope st)) (len : ∀ vs H Q E, sp vs H Q E → vs.length = ps.length)
    (hbody : ∀ (f : Addr) (cdv : Value) (A : Around) (outer : List Env) (s : Shared) (H : Hp) (vs : List V) (Q : VK) (E : XK), Room k (A.deeper (envOfC qual (defScope st) s.heap.objs.size f cdv)) → sp vs H Q E →
      ∃ t, PSs (cxOf (L2N.CX P w) P w K mg base N qual (defScope st) f cdv A outer s H E) (defBody st) t ∧ t { nx := fun _ H' => Q .non H', rt := Q } (start N vs) H) : MDef P w K mg base (L2N.CX P w) (k + 1) C m ps ds sp := by
  obtain ⟨f, fd, us, G, M, b, v⟩ := F.ex
  exact ⟨f, fd, us, G.ok S len (fun cdv A outer s H vs Q E hr h => hbody f cdv A outer s H vs Q E hr h), M, b, v⟩
theorem idxS_at {u : Str} : ∀ {ns : List Str}, u ∈ ns → ns[idxS u ns]? = some u
  | a :: r, h => by
    unfold idxS
    by_cases e : a = u
    · rw [if_pos e, e]
      rfl
    · rw [if_neg e, List.getElem?_cons_succ]
      rcases List.mem_cons.mp h with h | h
      · exact absurd h.symm e
      · exact idxS_at h
theorem idxS_first {u : Str} : ∀ {ns : List Str} {m : Nat} {z : Str}, m < idxS u ns → ns[m]? = some z → z ≠ u
  | [], _, _, _, h => by simp at h
  | a :: r, 0, z, h, hz => by
    have ez : a = z := Option.some.inj hz
    rw [← ez]
    intro e
    unfold idxS at h
    rw [if_pos e] at h
    exact absurd h (Nat.lt_irrefl _)
  | a :: r, m + 1, z, h, hz => by
    unfold idxS at h
    by_cases e : a = u
    · rw [if_pos e] at h
      omega
    · rw [if_neg e] at h
      exact idxS_first (m := m) (by omega) hz
def spKnownNameX (K : PySem.W.Frag) (C CT : Addr) : Sp := fun vs H Q E => ∃ (a : Addr) (n : Int) (ws : List Str) (r : Nat) (p : Addr) (ns : List Str) (least : Int), vs = [.ref a, .ref p, .int least] ∧ LnX C H a n ws r ∧ SqL K H p (ns.map V.str) ∧ (∀ e, rdKnown ws r ns least = .error e → FltX CT E a H n ws e) ∧
  ∀ j, rdKnown ws r ns least = .ok j → ∀ H', SameX a H H' → LnX C H' a n ws (r + 1) → Q (.int (j : Int)) H'
theorem d_read_known_nameX (T : TxtL K mg C) (D_Line_due_name : MDef P w K mg base (L2N.CX P w) 5 C "due_name" ["self"] [] (spDueNameX C CT)) (D_Line_refuse : MDef P w K mg base (L2N.CX P w) 3 C "refuse" ["self", "reason"] [] (spRefuse C CT)) (D_Line_step : MDef P w K mg base (L2N.CX P w) 1 C "step" ["self"] [] (spStepX C))
    (A : MAtD K C "read_known_name" "Line.read_known_name" s_Line_read_known_name ["self", "names", "least"] [.int 0]) : MDef P w K mg base (L2N.CX P w) 6 C "read_known_name" ["self", "names", "least"] [.int 0] (spKnownNameX K C CT) := by
  have B := T.B
  refine A.okX sc_Line_read_known_name (fun vs H Q E h => ?_) (fun f cdv A outer s H vs Q E hr h => ?_)
  · obtain ⟨a, n, ws, r, p, ns, least, rfl, _⟩ := h
    rfl
  obtain ⟨a, n, ws, r, p, ns, least, rfl, hL, hP, qe, q⟩ := h
  refine ⟨_, pss_cons (ps_set (i := 3) sc_Line_read_known_name.nd rfl (Or.inl rfl) (pe_m0 D_Line_due_name T.c_Line.cl (hr.mono (by omega)) (passOut rfl rfl rfl rfl) (pv 0)))
  (pss_cons (ps_if (pt_cmpR op_notIn_seq (pv 3) (pv 1) (by rfl))
      (pss_one (ps_expr (pe_m D_Line_refuse T.c_Line.cl (hr.mono (by omega)) (passOut rfl rfl rfl rfl) (pv 0) (pa_cons pe_str pa_nil))))
      (pss_nil))
  (pss_cons (ps_set (i := 4) sc_Line_read_known_name.nd rfl (Or.inl rfl) (pe_bm PySem.F.plainAttrs_list PySem.F.slot_list_index PySem.F.type_list_index mt_index (pv 1) (pa_cons (pv 3) pa_nil)))
  (pss_cons (ps_if (pt_cmpR op_lt (pv 4) (pv 2) (nomark _))
      (pss_one (ps_expr (pe_m D_Line_refuse T.c_Line.cl (hr.mono (by omega)) (passOut rfl rfl rfl rfl) (pv 0) (pa_cons pe_str pa_nil))))
      (pss_nil))
  (pss_cons (ps_expr (pe_m0 D_Line_step T.c_Line.cl (hr.mono (by omega)) (passOut rfl rfl rfl rfl) (pv 0)))
  (pss_one (ps_ret (pv 4)))))))
    , ?_⟩
  obtain ⟨_, _, g0, z0⟩ := LnX.no hL (m := "due_name") (by decide +kernel) (by decide +kernel) (by decide +kernel) (by decide +kernel)
  refine ⟨_, rfl, a, _, _, rfl, g0, z0, a, n, ws, r, rfl, hL, fun e he => qe e (by unfold rdKnown; rw [he]), fun u hu H1 s1 => ?_⟩
  have L1 := hL.same s1
  refine ⟨_, rfl, _, rfl, p, _, rfl, .inl (s1.seq hP), rfl, flat_strs, _, rfl, ?_⟩
  by_cases hc : u ∈ ns
  · refine iteF' (by rw [inV_str, decide_eq_true hc]; rfl) ?_
    refine ⟨_, rfl, .inl ⟨rfl, _, s1.seq hP⟩, _, rfl, p, _, _, idxS u ns, .str u, rfl, rfl, s1.seq hP, rfl, flat_strs, by rw [List.getElem?_map, idxS_at hc]; rfl, decide_eq_true rfl, fun m z hm hz => ?_, ?_⟩
    · rw [List.getElem?_map] at hz
      cases e : ns[m]? with
      | none => rw [e] at hz; cases hz
      | some y =>
        rw [e] at hz
        have ez : V.str y = z := Option.some.inj hz
        rw [← ez]
        exact decide_eq_false (idxS_first hm e)
    refine ⟨_, rfl, _, rfl, _, _, rfl, rfl, _, rfl, ?_⟩
    by_cases hl : (idxS u ns : Int) < least
    · refine iteT' (decide_eq_true hl) ?_
      (obtain ⟨_, _, g1, z1⟩ := LnX.no L1 (m := "refuse") (by decide +kernel) (by decide +kernel) (by decide +kernel) (by decide +kernel); exact ⟨_, rfl, a, _, _, rfl, g1, z1, a, n, ws, r, _, rfl, L1, by decide +kernel, ((qe _ (by unfold rdKnown; rw [hu]; dsimp only; rw [if_pos hc, if_pos hl])).on (SameX.of s1)).same⟩)
    · refine iteF' (decide_eq_false hl) ?_
      obtain ⟨_, _, g1, z1⟩ := LnX.no L1 (m := "step") (by decide +kernel) (by decide +kernel) (by decide +kernel) (by decide +kernel)
      refine ⟨_, rfl, a, _, _, rfl, g1, z1, a, n, ws, r, rfl, L1, rdDueName_at hu, fun H' s' L' => ?_⟩
      exact ⟨_, rfl, q _ (by unfold rdKnown; rw [hu]; dsimp only; rw [if_pos hc, if_neg hl]) H' ((SameX.of s1).trans s') L'⟩
  · refine iteT' (by rw [inV_str, decide_eq_false hc]; rfl) ?_
    (obtain ⟨_, _, g1, z1⟩ := LnX.no L1 (m := "refuse") (by decide +kernel) (by decide +kernel) (by decide +kernel) (by decide +kernel); exact ⟨_, rfl, a, _, _, rfl, g1, z1, a, n, ws, r, _, rfl, L1, by decide +kernel, ((qe _ (by unfold rdKnown; rw [hu]; dsimp only; rw [if_neg hc])).on (SameX.of s1)).same⟩)
end
end DP
namespace DP
open PySem PySem.Spec PyProof.Rows L2
def rdLight (ws : List Str) (h : Int) : Nat → Nat → Int → Rd Unit
  | 0, _, _ => .ok ()
  | k + 1, r, least => if r < ws.length then (match rdNum ws r least (h - 1) with
    | .error e => .error e
    | .ok f => match rdNum ws (r + 1) (f + 1) h with
      | .error e => .error e
      | .ok g => rdLight ws h k (r + 2) g) else .ok ()
theorem rdNum_at {ws : List Str} {r : Nat} {lo hi m : Int} (h : rdNum ws r lo hi = .ok m) : r < ws.length ∧ lo ≤ m ∧ m ≤ hi := by
  unfold rdNum at h
  split at h
  · cases h
  · rename_i u e
    split at h
    · split at h
      · cases h
      · rename_i c
        cases h
        exact ⟨(List.getElem?_eq_some_iff.mp (rdDue_ok e).1).1, by omega, by omega⟩
    · cases h
/-- a reader's steps -/
def seq2 {α β : Type} (x : Rd α) (f : α → Rd β) : Rd β := match x with
  | .error e => .error e
  | .ok a => f a
def rdSat (ws : List Str) (h : Int) (used : List Str) : Rd Str :=
  seq2 (rdNew ws 1 used) fun nm => seq2 (rdField ws 2 "store" 0 1000000) fun _ => seq2 (rdField ws 4 "battery" 0 1000000) fun b => seq2 (rdField ws 6 "level" 0 b) fun l => seq2 (rdField ws 8 "reserve" 0 l) fun _ => seq2 (rdField ws 10 "charge" 0 1000) fun _ =>
  seq2 (rdField ws 12 "settle" 0 60) fun _ => seq2 (rdChoice ws 14 ["light"]) fun _ => seq2 (rdLight ws h ws.length 15 0) fun _ => .ok nm
def rdSta (ws : List Str) (used : List Str) : Rd Str :=
  seq2 (rdNew ws 1 used) fun nm => seq2 (rdField ws 2 "antennas" 1 3) fun _ => seq2 (rdField ws 4 "turn" 0 60) fun _ => .ok nm
def rdRec (ws : List Str) (h : Int) (sats used : List Str) : Rd Str :=
  seq2 (rdNew ws 1 used) fun nm => seq2 (rdChoice ws 2 ["by"]) fun _ => seq2 (rdKnown ws 3 sats 0) fun _ => seq2 (rdField ws 4 "from" 0 (h - 1)) fun e => seq2 (rdField ws 6 "to" e (if h - 1 < e + 20 then h - 1 else e + 20)) fun l => seq2 (rdField ws 8 "length" 1 (h - l)) fun _ =>
  seq2 (rdField ws 10 "size" 0 1000000) fun _ => seq2 (rdField ws 12 "energy" 0 1000000) fun _ => seq2 (rdField ws 14 "worth" 1 1000) fun _ => seq2 (rdField ws 16 "rank" 1 3) fun _ => seq2 (rdField ws 18 "until" 0 h) fun _ => .ok nm
def rdPas (ws : List Str) (h : Int) (sats stas used : List Str) : Rd Str :=
  seq2 (rdNew ws 1 used) fun nm => seq2 (rdChoice ws 2 ["by"]) fun _ => seq2 (rdKnown ws 3 sats 0) fun _ => seq2 (rdChoice ws 4 ["over"]) fun _ => seq2 (rdKnown ws 5 stas 0) fun _ => seq2 (rdField ws 6 "from" 0 (h - 1)) fun f => seq2 (rdField ws 8 "to" (f + 1) h) fun _ =>
  seq2 (rdField ws 10 "room" 0 1000000) fun _ => seq2 (rdField ws 12 "energy" 0 1000000) fun _ => seq2 (rdField ws 14 "fee" 0 1000) fun _ => .ok nm
theorem seq2_err {α β : Type} {x : Rd α} {f : α → Rd β} {e : Er} (h : x = .error e) : seq2 x f = .error e := by rw [h]; rfl
theorem seq2_ok {α β : Type} {x : Rd α} {f : α → Rd β} {a : α} (h : x = .ok a) : seq2 x f = f a := by rw [h]; rfl
section
variable {P : Program} {w : World} {K : PySem.W.Frag} {mg : Str → Option Value} {base : Heap} {CL CS CT CR CP CW aS aR fS fT fR fP CF : Addr}
def spLightX (K : PySem.W.Frag) (CL CF : Addr) : Sp := fun vs H Q E => ∃ (a : Addr) (n : Int) (ws : List Str) (r : Nat) (h : Int), vs = [.ref a, .int h] ∧ LnX CL H a n ws r ∧ h ≤ 500 ∧ (∀ e, rdLight ws h ws.length r 0 = .error e → FltX CF E a H n ws e) ∧
  (rdLight ws h ws.length r 0 = .ok () → ∀ t H', SameX a H H' → LnX CL H' a n ws ws.length → Q (.ref t) H')
set_option maxHeartbeats 8000000 in
theorem d_read_lightX (T : TxtW K mg CL CS CT CR CP CW aS aR fS fT fR fP) (D_Line_has_more : MDef P w K mg base (L2N.CX P w) 1 CL "has_more" ["self"] [] (spHasMoreX CL)) (D_Line_read_number : MDef P w K mg base (L2N.CX P w) 5 CL "read_number" ["self", "least", "most"] [] (spNumberX CL CF))
    (A : At K mg "read_light" s_read_light ["line", "horizon"]) : DefOk P w K mg base (L2N.CX P w) 6 "read_light" ["line", "horizon"] (spLightX K CL CF) := by
  have TW := T
  have T := T.L
  have B := T.B
  refine A.okX sc_read_light (fun vs H Q E h => ?_) (fun f cdv A outer s H vs Q E hr h => ?_)
  · obtain ⟨a, n, ws, r, h, rfl, _⟩ := h
    rfl
  obtain ⟨a, n, ws, r, h, rfl, hL, hh, qe, q⟩ := h
  refine ⟨_, pss_cons (ps_set (i := 2) sc_read_light.nd rfl (Or.inl rfl) (pe_lst pa_nil))
  (pss_cons (ps_set (i := 3) sc_read_light.nd rfl (Or.inl rfl) pe_int)
  (pss_cons (ps_while (passes_of rfl) (pt_val (pe_m0 D_Line_has_more T.c_Line.cl (hr.mono (by omega)) (passOut rfl rfl rfl rfl) (pv 0)))
      (pss_cons (ps_set (i := 4) sc_read_light.nd rfl (Or.inl rfl) (pe_m D_Line_read_number T.c_Line.cl (hr.mono (by omega)) (passOut rfl rfl rfl rfl) (pv 0) (pa_cons (pv 3) (pa_cons (pe_op op_sub (pv 1) pe_int) pa_nil))))
      (pss_cons (ps_set (i := 3) sc_read_light.nd rfl (Or.inl rfl) (pe_m D_Line_read_number T.c_Line.cl (hr.mono (by omega)) (passOut rfl rfl rfl rfl) (pv 0) (pa_cons (pe_op op_add (pv 4) pe_int) (pa_cons (pv 1) pa_nil))))
      (pss_one (ps_expr (pe_bm PySem.F.plainAttrs_list PySem.F.slot_list_append PySem.F.type_list_append mt_append (pv 2) (pa_cons (pe_tup (pa_cons (pv 4) (pa_cons (pv 3) pa_nil))) pa_nil)))))))
  (pss_one (ps_ret (pe_callTy (call_tuple_of) (by rfl) B.tuple (by decide +kernel) (pa_cons (pv 2) pa_nil))))))
    , ?_⟩
  refine ⟨Nat.zero_le _, fun L hLn => ?_⟩
  have eaL : a ≠ L := by
    obtain ⟨dx, wl, h1, h2⟩ := hL.ex
    exact ne_of_none h1 hLn
  refine ⟨fun k σ H' => ∃ (ls : List V) (r' : Nat) (le : Int) (y4 : Option V), r' ≤ ws.length ∧ ws.length ≤ r' + k ∧ 0 ≤ le ∧ rdLight ws h ws.length r 0 = rdLight ws h k r' le ∧ ls.length ≤ r' ∧
    σ = [some (.ref a), some (.int h), some (.ref L), some (.int le), y4] ∧ H' L = some (.lst ls) ∧ (∀ y ∈ ls, ∃ t, y = V.ref t) ∧ LnX CL H' a n ws r' ∧ SameX a H H', ⟨ws.length, [], r, 0, none, hL.le, by omega, Int.le_refl 0, rfl, Nat.zero_le _, rfl, upd_same, (fun y hy => absurd hy List.not_mem_nil), hL.same (same_new hLn _), SameX.of (same_new hLn _)⟩, fun k σ H' hI => ?_⟩
  obtain ⟨ls, r', le, y4, hr1, hk, hle, heq, hll, rfl, hLL, hrf, hLk, hsx⟩ := hI
  obtain ⟨_, _, g1, g2⟩ := LnX.no hLk (m := "has_more") (by decide +kernel) (by decide +kernel) (by decide +kernel) (by decide +kernel)
  refine ⟨_, rfl, a, _, _, rfl, g1, g2, a, n, ws, r', rfl, hLk, _, rfl, ?_⟩
  by_cases hc : r' < ws.length
  · obtain ⟨k', rfl⟩ : ∃ k', k = k' + 1 := ⟨k - 1, by omega⟩
    have step : rdLight ws h (k' + 1) r' le = (match rdNum ws r' le (h - 1) with | .error e => .error e | .ok f => match rdNum ws (r' + 1) (f + 1) h with | .error e => .error e | .ok g => rdLight ws h k' (r' + 2) g) := by
      show (if r' < ws.length then _ else _) = _
      rw [if_pos hc]
    refine iteT' (decide_eq_true hc) ?_
    refine ⟨fun σ' H'' => ∃ m, m < k' + 1 ∧ ∃ (ls : List V) (r' : Nat) (le : Int) (y4 : Option V), r' ≤ ws.length ∧ ws.length ≤ r' + m ∧ 0 ≤ le ∧ rdLight ws h ws.length r 0 = rdLight ws h m r' le ∧ ls.length ≤ r' ∧
      σ' = [some (.ref a), some (.int h), some (.ref L), some (.int le), y4] ∧ H'' L = some (.lst ls) ∧ (∀ y ∈ ls, ∃ t, y = V.ref t) ∧ LnX CL H'' a n ws r' ∧ SameX a H H'', fun σ' H'' z => z, ?_⟩
    obtain ⟨_, _, g3, g4⟩ := LnX.no hLk (m := "read_number") (by decide +kernel) (by decide +kernel) (by decide +kernel) (by decide +kernel)
    refine ⟨_, rfl, a, _, _, rfl, g3, g4, _, rfl, _, rfl, _, _, rfl, rfl, a, n, ws, r', le, h - 1, rfl, hLk, fun e he => (qe e (by rw [heq, step, he])).on hsx, fun f1 hf1 H1 s1 L1 => ?_⟩
    obtain ⟨b1, b2, b3⟩ := rdNum_at hf1
    obtain ⟨_, _, g5, g6⟩ := LnX.no L1 (m := "read_number") (by decide +kernel) (by decide +kernel) (by decide +kernel) (by decide +kernel)
    refine ⟨_, rfl, a, _, _, rfl, g5, g6, _, rfl, _, _, rfl, rfl, _, rfl, a, n, ws, r' + 1, f1 + 1, h, rfl, L1, fun e he => (qe e (by rw [heq, step, hf1]; dsimp only; rw [he])).on (hsx.trans s1), fun f2 hf2 H2 s2 L2 => ?_⟩
    obtain ⟨c1, c2, c3⟩ := rdNum_at hf2
    have hL2 : H2 L = some (.lst ls) := s2 _ _ eaL.symm (s1 _ _ eaL.symm hLL)
    refine ⟨_, rfl, .inl ⟨rfl, _, SqL.of hL2⟩, _, rfl, _, rfl, (by show 2 ≤ sizeLine; decide), fun t ht => ?_⟩
    have eLt : L ≠ t := ne_of_none hL2 ht
    have hLt : (upd H2 t (.tup [.int f1, .int f2])) L = some (.lst ls) := by rw [upd_ne eLt]; exact hL2
    have hsz := L2.sz
    refine ⟨L, ls, .ref t, rfl, rfl, hLt, by rw [sizeLine_eq]; omega, ?_⟩
    refine ⟨k', by omega, ls ++ [.ref t], r' + 2, f2, _, by omega, by omega, by omega, by rw [heq, step, hf1]; dsimp only; rw [hf2], by rw [List.length_append, List.length_singleton]; omega, rfl, upd_same, fun y hy => ?_, ?_, ?_⟩
    · rcases List.mem_append.mp hy with hy | hy
      · exact hrf y hy
      · exact ⟨t, List.mem_singleton.mp hy⟩
    · have L2t := L2.same (same_new ht (.tup [.int f1, .int f2]))
      obtain ⟨dx3, wl3, z1, z2⟩ := L2t.ex
      refine ⟨⟨dx3, wl3, by rw [upd_ne eaL]; exact z1, ?_⟩, L2t.n0, L2t.n1, L2t.le, L2t.wl, L2t.sz⟩
      rw [upd_ne]
      · exact z2
      · intro z
        rw [z, hLt] at z2
        have e : ls = ws.map V.str := HO.lst.inj (Option.some.inj z2)
        cases ws with
        | nil => exact absurd c1 (Nat.not_lt_zero _)
        | cons w wr =>
          obtain ⟨t', ht'⟩ := hrf (.str w) (by rw [e]; exact List.mem_cons_self)
          cases ht'
    · exact SameX.new hLn (((hsx.trans s1).trans s2).trans (SameX.of (same_new ht _)))
  · have fin : rdLight ws h k r' le = .ok () := by
      cases k with
      | zero => rfl
      | succ k =>
        show (if r' < ws.length then _ else _) = _
        rw [if_neg hc]
    refine iteF' (decide_eq_false hc) ?_
    refine ⟨_, rfl, L, _, rfl, .inl ⟨SqL.of hLL, fun t ht => ?_⟩⟩
    refine q (by rw [heq, fin]) t _ (SameX.trans hsx (SameX.of (same_new ht _))) ?_
    rw [show ws.length = r' by omega]
    exact hLk.same (same_new ht _)
end
end DP
namespace DP
open PySem PySem.Spec PyProof.Rows L2
section
variable {P : Program} {w : World} {K : PySem.W.Frag} {mg : Str → Option Value} {base : Heap} {CL CS CT CR CP CW aS aR fS fT fR fP CF : Addr}
def spRdSatX (K : PySem.W.Frag) (CL CF : Addr) : Sp := fun vs H Q E => ∃ (a : Addr) (n : Int) (ws : List Str) (h : Int) (th : Addr) (ns : List Str), vs = [.ref a, .int h, .ref th] ∧ LnX CL H a n ws 1 ∧ NamesAt K H th 0 ns ∧ h ≤ 500 ∧ (∀ e, rdSat ws h ns = .error e → FltX CF E a H n ws e) ∧
  ∀ nm, rdSat ws h ns = .ok nm → ∀ b H', H b = none → SameX a H H' → LnX CL H' a n ws ws.length → Named K H' (.ref b) nm → Q (.ref b) H'
theorem LnX.there {H : Hp} {a : Addr} {n : Int} {ws : List Str} {r : Nat} (h : LnX CL H a n ws r) : ∃ o, H a = some o := by
  obtain ⟨dx, wl, h1, h2⟩ := h.ex
  exact ⟨_, h1⟩
set_option maxHeartbeats 8000000 in
theorem d_read_satelliteX (T : TxtW K mg CL CS CT CR CP CW aS aR fS fT fR fP) (D_names_of : DefOk P w K mg base (L2N.CX P w) 1 "names_of" ["things"] (spNames K)) (D_Line_read_new_name : MDef P w K mg base (L2N.CX P w) 6 CL "read_new_name" ["self", "used"] [] (spNewNameX K CL CF))
    (D_Line_read_field : MDef P w K mg base (L2N.CX P w) 6 CL "read_field" ["self", "word", "least", "most"] [] (spFieldX CL CF)) (D_Line_read_choice : MDef P w K mg base (L2N.CX P w) 5 CL "read_choice" ["self", "choices"] [] (spChoiceX K CL CF))
    (D_read_light : DefOk P w K mg base (L2N.CX P w) 6 "read_light" ["line", "horizon"] (spLightX K CL CF)) (DI_Satellite : MDef P w K mg base (L2N.CX P w) 1 CS "__init__" ["self", "name", "store", "battery", "start_level", "reserve", "charge", "settle", "light"] [] (spI_Satellite CS))
    (A : At K mg "read_satellite" s_read_satellite ["line", "horizon", "things"]) : DefOk P w K mg base (L2N.CX P w) 7 "read_satellite" ["line", "horizon", "things"] (spRdSatX K CL CF) := by
  have B := T.L.B
  refine A.okX sc_read_satellite (fun vs H Q E h => ?_) (fun f cdv A outer s H vs Q E hr h => ?_)
  · obtain ⟨a, n, ws, h, th, ns, rfl, _⟩ := h
    rfl
  obtain ⟨a, n, ws, h, th, ns, rfl, hL, hN, hh5, qe, q⟩ := h
  refine ⟨_, pss_cons (ps_set (i := 3) sc_read_satellite.nd rfl (Or.inl rfl) (pe_m D_Line_read_new_name T.c_Line.cl (hr.mono (by omega)) (passOut rfl rfl rfl rfl) (pv 0) (pa_cons (pe_f D_names_of (hr.mono (by omega)) (passOut rfl rfl rfl rfl) (pa_cons (pe_ix ix_tup (pv 2) (pe_gi T.g_SATELLITES) (fun _ _ => rfl)) pa_nil)) pa_nil)))
  (pss_cons (ps_set (i := 4) sc_read_satellite.nd rfl (Or.inl rfl) (pe_m D_Line_read_field T.c_Line.cl (hr.mono (by omega)) (passOut rfl rfl rfl rfl) (pv 0) (pa_cons pe_str (pa_cons pe_int (pa_cons (pe_gi T.g_MOST_UNITS) pa_nil)))))
  (pss_cons (ps_set (i := 5) sc_read_satellite.nd rfl (Or.inl rfl) (pe_m D_Line_read_field T.c_Line.cl (hr.mono (by omega)) (passOut rfl rfl rfl rfl) (pv 0) (pa_cons pe_str (pa_cons pe_int (pa_cons (pe_gi T.g_MOST_UNITS) pa_nil)))))
  (pss_cons (ps_set (i := 6) sc_read_satellite.nd rfl (Or.inl rfl) (pe_m D_Line_read_field T.c_Line.cl (hr.mono (by omega)) (passOut rfl rfl rfl rfl) (pv 0) (pa_cons pe_str (pa_cons pe_int (pa_cons (pv 5) pa_nil)))))
  (pss_cons (ps_set (i := 7) sc_read_satellite.nd rfl (Or.inl rfl) (pe_m D_Line_read_field T.c_Line.cl (hr.mono (by omega)) (passOut rfl rfl rfl rfl) (pv 0) (pa_cons pe_str (pa_cons pe_int (pa_cons (pv 6) pa_nil)))))
  (pss_cons (ps_set (i := 8) sc_read_satellite.nd rfl (Or.inl rfl) (pe_m D_Line_read_field T.c_Line.cl (hr.mono (by omega)) (passOut rfl rfl rfl rfl) (pv 0) (pa_cons pe_str (pa_cons pe_int (pa_cons (pe_gi T.g_MOST_CHARGE) pa_nil)))))
  (pss_cons (ps_set (i := 9) sc_read_satellite.nd rfl (Or.inl rfl) (pe_m D_Line_read_field T.c_Line.cl (hr.mono (by omega)) (passOut rfl rfl rfl rfl) (pv 0) (pa_cons pe_str (pa_cons pe_int (pa_cons (pe_gi T.g_MOST_DELAY) pa_nil)))))
  (pss_cons (ps_expr (pe_m D_Line_read_choice T.c_Line.cl (hr.mono (by omega)) (passOut rfl rfl rfl rfl) (pv 0) (pa_cons (pe_tup (pa_cons pe_str pa_nil)) pa_nil)))
  (pss_cons (ps_set (i := 10) sc_read_satellite.nd rfl (Or.inl rfl) (pe_f D_read_light (hr.mono (by omega)) (passOut rfl rfl rfl rfl) (pa_cons (pv 0) (pa_cons (pv 1) pa_nil))))
  (pss_one (ps_ret (pe_mk DI_Satellite T.c_Satellite (hr.mono (by omega)) (passOut rfl rfl rfl rfl) (pa_cons (pv 3) (pa_cons (pv 4) (pa_cons (pv 5) (pa_cons (pv 6) (pa_cons (pv 7) (pa_cons (pv 8) (pa_cons (pv 9) (pa_cons (pv 10) pa_nil)))))))))))))))))))
    , ?_⟩
  have E0 : rdSat ws h ns = seq2 (rdNew ws 1 ns) _ := rfl
  (obtain ⟨ls, l, xs, t1, t2, t3, t4, t5⟩ := hN; obtain ⟨_, _, g0, z0⟩ := LnX.no hL (m := "read_new_name") (by decide +kernel) (by decide +kernel) (by decide +kernel) (by decide +kernel); refine ⟨_, rfl, a, _, _, rfl, g0, z0, _, rfl, th, _, _, .ref l, rfl, rfl, t1, atI_nat (j := 0) (by rw [List.getElem?_map, t2]; rfl), l, xs, ns, rfl, t3, t4, t5, fun p H1 s1 np hp => ?_⟩; refine ⟨a, n, ws, 1, p, ns, rfl, hL.same s1, SqL.of hp, fun e he => (qe e (E0.trans (seq2_err he))).on (SameX.of s1), fun nm hnm H2 s2 L2 => ?_⟩; have E2 := E0.trans (seq2_ok hnm); have S2 := (SameX.of s1).trans s2)
  (obtain ⟨_, _, gg, zz⟩ := LnX.no L2 (m := "read_field") (by decide +kernel) (by decide +kernel) (by decide +kernel) (by decide +kernel); refine ⟨_, rfl, a, _, _, rfl, gg, zz, a, n, ws, 2, _, _, _, rfl, L2, fun e he => (qe e (E2.trans (seq2_err he))).on S2, fun m3 hm H3 ss L3 => ?_⟩; have E3 := E2.trans (seq2_ok hm); have S3 := SameX.trans S2 ss)
  (obtain ⟨_, _, gg, zz⟩ := LnX.no L3 (m := "read_field") (by decide +kernel) (by decide +kernel) (by decide +kernel) (by decide +kernel); refine ⟨_, rfl, a, _, _, rfl, gg, zz, a, n, ws, 4, _, _, _, rfl, L3, fun e he => (qe e (E3.trans (seq2_err he))).on S3, fun m4 hm H4 ss L4 => ?_⟩; have E4 := E3.trans (seq2_ok hm); have S4 := SameX.trans S3 ss)
  (obtain ⟨_, _, gg, zz⟩ := LnX.no L4 (m := "read_field") (by decide +kernel) (by decide +kernel) (by decide +kernel) (by decide +kernel); refine ⟨_, rfl, a, _, _, rfl, gg, zz, _, rfl, a, n, ws, 6, _, _, _, rfl, L4, fun e he => (qe e (E4.trans (seq2_err he))).on S4, fun m5 hm H5 ss L5 => ?_⟩; have E5 := E4.trans (seq2_ok hm); have S5 := SameX.trans S4 ss)
  (obtain ⟨_, _, gg, zz⟩ := LnX.no L5 (m := "read_field") (by decide +kernel) (by decide +kernel) (by decide +kernel) (by decide +kernel); refine ⟨_, rfl, a, _, _, rfl, gg, zz, _, rfl, a, n, ws, 8, _, _, _, rfl, L5, fun e he => (qe e (E5.trans (seq2_err he))).on S5, fun m6 hm H6 ss L6 => ?_⟩; have E6 := E5.trans (seq2_ok hm); have S6 := SameX.trans S5 ss)
  (obtain ⟨_, _, gg, zz⟩ := LnX.no L6 (m := "read_field") (by decide +kernel) (by decide +kernel) (by decide +kernel) (by decide +kernel); refine ⟨_, rfl, a, _, _, rfl, gg, zz, a, n, ws, 10, _, _, _, rfl, L6, fun e he => (qe e (E6.trans (seq2_err he))).on S6, fun m7 hm H7 ss L7 => ?_⟩; have E7 := E6.trans (seq2_ok hm); have S7 := SameX.trans S6 ss)
  (obtain ⟨_, _, gg, zz⟩ := LnX.no L7 (m := "read_field") (by decide +kernel) (by decide +kernel) (by decide +kernel) (by decide +kernel); refine ⟨_, rfl, a, _, _, rfl, gg, zz, a, n, ws, 12, _, _, _, rfl, L7, fun e he => (qe e (E7.trans (seq2_err he))).on S7, fun m8 hm H8 ss L8 => ?_⟩; have E8 := E7.trans (seq2_ok hm); have S8 := SameX.trans S7 ss)
  (obtain ⟨_, _, gg, zz⟩ := LnX.no L8 (m := "read_choice") (by decide +kernel) (by decide +kernel) (by decide +kernel) (by decide +kernel); refine ⟨_, rfl, a, _, _, rfl, gg, zz, (by show 1 ≤ sizeLine; decide), fun tt htt => ?_⟩; refine ⟨a, n, ws, 14, tt, [Str.ofString "light"], rfl, LnX.same L8 (same_new htt _), SqT.of upd_same, fun e he => (qe e (E8.trans (seq2_err he))).on (SameX.trans S8 (SameX.of (same_new htt _))), fun uu hm H9 ss L9 => ?_⟩; have E9 := E8.trans (seq2_ok hm); have S9 := (SameX.trans S8 (SameX.of (same_new htt _))).trans ss)
  refine ⟨_, rfl, _, rfl, a, n, ws, 15, h, rfl, L9, hh5, fun e he => (qe e (E9.trans (seq2_err he))).on S9, fun hli t H10 s10 L10 => ?_⟩
  have E10 := E9.trans (seq2_ok hli)
  have S10 := S9.trans s10
  refine ⟨_, rfl, _, rfl, _, rfl, _, rfl, _, rfl, _, rfl, _, rfl, _, rfl, fun x dx hx hdx ne => ?_⟩
  refine ⟨x, dx, _, _, _, _, _, _, _, _, rfl, upd_same, rfl, ?_⟩
  have sB : ∀ {fs : List (Str × V)}, Same H10 (upd (upd (upd H10 dx (.own x)) x (.ins CS dx [])) x (.ins CS dx fs)) := same_made hx hdx
  obtain ⟨o, ho⟩ := L10.there
  exact q nm E10 x _ (S10.free ho hx) (S10.trans (SameX.of sB)) (L10.same sB) ⟨x, CS, dx, _, rfl, upd_same, T.c_Satellite.cl, T.n_Satellite_name, lk_hit⟩
def spRdStaX (K : PySem.W.Frag) (CL CF : Addr) : Sp := fun vs H Q E => ∃ (a : Addr) (n : Int) (ws : List Str) (h : Int) (th : Addr) (ns : List Str), vs = [.ref a, .int h, .ref th] ∧ LnX CL H a n ws 1 ∧ NamesAt K H th 1 ns ∧ (∀ e, rdSta ws ns = .error e → FltX CF E a H n ws e) ∧
  ∀ nm, rdSta ws ns = .ok nm → ∀ b H', H b = none → SameX a H H' → LnX CL H' a n ws 6 → Named K H' (.ref b) nm → Q (.ref b) H'
theorem d_read_stationX (T : TxtW K mg CL CS CT CR CP CW aS aR fS fT fR fP) (D_names_of : DefOk P w K mg base (L2N.CX P w) 1 "names_of" ["things"] (spNames K)) (D_Line_read_new_name : MDef P w K mg base (L2N.CX P w) 6 CL "read_new_name" ["self", "used"] [] (spNewNameX K CL CF))
    (D_Line_read_field : MDef P w K mg base (L2N.CX P w) 6 CL "read_field" ["self", "word", "least", "most"] [] (spFieldX CL CF)) (DI_Station : MDef P w K mg base (L2N.CX P w) 1 CT "__init__" ["self", "name", "antennas", "turn"] [] (spI_Station CT))
    (A : At K mg "read_station" s_read_station ["line", "_", "things"]) : DefOk P w K mg base (L2N.CX P w) 7 "read_station" ["line", "_", "things"] (spRdStaX K CL CF) := by
  have B := T.L.B
  refine A.okX sc_read_station (fun vs H Q E h => ?_) (fun f cdv A outer s H vs Q E hr h => ?_)
  · obtain ⟨a, n, ws, h, th, ns, rfl, _⟩ := h
    rfl
  obtain ⟨a, n, ws, h, th, ns, rfl, hL, hN, qe, q⟩ := h
  refine ⟨_, pss_cons (ps_set (i := 3) sc_read_station.nd rfl (Or.inl rfl) (pe_m D_Line_read_new_name T.c_Line.cl (hr.mono (by omega)) (passOut rfl rfl rfl rfl) (pv 0) (pa_cons (pe_f D_names_of (hr.mono (by omega)) (passOut rfl rfl rfl rfl) (pa_cons (pe_ix ix_tup (pv 2) (pe_gi T.g_STATIONS) (fun _ _ => rfl)) pa_nil)) pa_nil)))
  (pss_cons (ps_set (i := 4) sc_read_station.nd rfl (Or.inl rfl) (pe_m D_Line_read_field T.c_Line.cl (hr.mono (by omega)) (passOut rfl rfl rfl rfl) (pv 0) (pa_cons pe_str (pa_cons pe_int (pa_cons (pe_gi T.g_MOST_ANTENNAS) pa_nil)))))
  (pss_cons (ps_set (i := 5) sc_read_station.nd rfl (Or.inl rfl) (pe_m D_Line_read_field T.c_Line.cl (hr.mono (by omega)) (passOut rfl rfl rfl rfl) (pv 0) (pa_cons pe_str (pa_cons pe_int (pa_cons (pe_gi T.g_MOST_DELAY) pa_nil)))))
  (pss_one (ps_ret (pe_mk DI_Station T.c_Station (hr.mono (by omega)) (passOut rfl rfl rfl rfl) (pa_cons (pv 3) (pa_cons (pv 4) (pa_cons (pv 5) pa_nil))))))))
    , ?_⟩
  have E0 : rdSta ws ns = seq2 (rdNew ws 1 ns) _ := rfl
  (obtain ⟨ls, l, xs, t1, t2, t3, t4, t5⟩ := hN; obtain ⟨_, _, g0, z0⟩ := LnX.no hL (m := "read_new_name") (by decide +kernel) (by decide +kernel) (by decide +kernel) (by decide +kernel); refine ⟨_, rfl, a, _, _, rfl, g0, z0, _, rfl, th, _, _, .ref l, rfl, rfl, t1, atI_nat (j := 1) (by rw [List.getElem?_map, t2]; rfl), l, xs, ns, rfl, t3, t4, t5, fun p H1 s1 np hp => ?_⟩; refine ⟨a, n, ws, 1, p, ns, rfl, hL.same s1, SqL.of hp, fun e he => (qe e (E0.trans (seq2_err he))).on (SameX.of s1), fun nm hnm H2 s2 L2 => ?_⟩; have E2 := E0.trans (seq2_ok hnm); have S2 := (SameX.of s1).trans s2)
  (obtain ⟨_, _, gg, zz⟩ := LnX.no L2 (m := "read_field") (by decide +kernel) (by decide +kernel) (by decide +kernel) (by decide +kernel); refine ⟨_, rfl, a, _, _, rfl, gg, zz, a, n, ws, 2, _, _, _, rfl, L2, fun e he => (qe e (E2.trans (seq2_err he))).on S2, fun m3 hm H3 ss L3 => ?_⟩; have E3 := E2.trans (seq2_ok hm); have S3 := SameX.trans S2 ss)
  (obtain ⟨_, _, gg, zz⟩ := LnX.no L3 (m := "read_field") (by decide +kernel) (by decide +kernel) (by decide +kernel) (by decide +kernel); refine ⟨_, rfl, a, _, _, rfl, gg, zz, a, n, ws, 4, _, _, _, rfl, L3, fun e he => (qe e (E3.trans (seq2_err he))).on S3, fun m4 hm H10 ss L10 => ?_⟩; have E10 := E3.trans (seq2_ok hm); have S10 := SameX.trans S3 ss)
  refine ⟨_, rfl, _, rfl, _, rfl, fun x dx hx hdx ne => ?_⟩
  refine ⟨x, dx, _, _, _, rfl, upd_same, rfl, ?_⟩
  have sB : ∀ {fs : List (Str × V)}, Same H10 (upd (upd (upd H10 dx (.own x)) x (.ins CT dx [])) x (.ins CT dx fs)) := same_made hx hdx
  obtain ⟨o, ho⟩ := L10.there
  exact q nm E10 x _ (S10.free ho hx) (S10.trans (SameX.of sB)) (L10.same sB) ⟨x, CT, dx, _, rfl, upd_same, T.c_Station.cl, T.n_Station_name, lk_hit⟩
theorem NamesAt.sxX {H H' : Hp} {a : Addr} {n : Int} {ws : List Str} {r : Nat} {th : Addr} {i : Nat} {ns : List Str} (h : NamesAt K H th i ns) (hL : LnX CL H a n ws r) (s : SameX a H H') : NamesAt K H' th i ns := by
  obtain ⟨ls, l, xs, h1, h2, h3, h4, h5⟩ := h
  obtain ⟨dx, wl, g1, g2⟩ := hL.ex
  exact ⟨ls, l, xs, s.sqT g1 h1, h2, s.sqL g1 h3, Paired.mapP h4 fun _ _ z => z.elim fun b ⟨D, dy, gs, e1, e2, e3, e4, e5⟩ => ⟨b, D, dy, gs, e1, s _ _ (fun z => by
    rw [z, g1] at e2
    injection e2 with e2
    injection e2 with z1 z2 z3
    rw [← z3, lnF_no (by decide +kernel) (by decide +kernel) (by decide +kernel) (by decide +kernel)] at e5
    cases e5) e2, e3, e4, e5⟩, h5⟩
def spRdRecX (K : PySem.W.Frag) (CL CF : Addr) : Sp := fun vs H Q E => ∃ (a : Addr) (n : Int) (ws : List Str) (h : Int) (th : Addr) (sats ns : List Str), vs = [.ref a, .int h, .ref th] ∧ LnX CL H a n ws 1 ∧ NamesAt K H th 2 ns ∧ NamesAt K H th 0 sats ∧ (∀ e, rdRec ws h sats ns = .error e → FltX CF E a H n ws e) ∧
  ∀ nm, rdRec ws h sats ns = .ok nm → ∀ b H', H b = none → SameX a H H' → LnX CL H' a n ws 20 → Named K H' (.ref b) nm → Q (.ref b) H'
set_option maxHeartbeats 16000000 in
theorem d_read_recordingX (T : TxtW K mg CL CS CT CR CP CW aS aR fS fT fR fP) (D_names_of : DefOk P w K mg base (L2N.CX P w) 1 "names_of" ["things"] (spNames K)) (D_Line_read_new_name : MDef P w K mg base (L2N.CX P w) 6 CL "read_new_name" ["self", "used"] [] (spNewNameX K CL CF))
    (D_Line_read_field : MDef P w K mg base (L2N.CX P w) 6 CL "read_field" ["self", "word", "least", "most"] [] (spFieldX CL CF)) (D_Line_read_choice : MDef P w K mg base (L2N.CX P w) 5 CL "read_choice" ["self", "choices"] [] (spChoiceX K CL CF))
    (D_Line_read_known_name : MDef P w K mg base (L2N.CX P w) 6 CL "read_known_name" ["self", "names", "least"] [.int 0] (spKnownNameX K CL CF))
    (DI_Recording : MDef P w K mg base (L2N.CX P w) 1 CR "__init__" ["self", "name", "satellite", "earliest", "latest", "length", "size", "energy", "worth", "rank", "deadline"] [] (spI_Recording CR))
    (A : At K mg "read_recording" s_read_recording ["line", "horizon", "things"]) : DefOk P w K mg base (L2N.CX P w) 7 "read_recording" ["line", "horizon", "things"] (spRdRecX K CL CF) := by
  have B := T.L.B
  refine A.okX sc_read_recording (fun vs H Q E h => ?_) (fun f cdv A outer s H vs Q E hr h => ?_)
  · obtain ⟨a, n, ws, h, th, sats, ns, rfl, _⟩ := h
    rfl
  obtain ⟨a, n, ws, h, th, sats, ns, rfl, hL, hN, hS, qe, q⟩ := h
  refine ⟨_, pss_cons (ps_set (i := 3) sc_read_recording.nd rfl (Or.inl rfl) (pe_m D_Line_read_new_name T.c_Line.cl (hr.mono (by omega)) (passOut rfl rfl rfl rfl) (pv 0) (pa_cons (pe_f D_names_of (hr.mono (by omega)) (passOut rfl rfl rfl rfl) (pa_cons (pe_ix ix_tup (pv 2) (pe_gi T.g_RECORDINGS) (fun _ _ => rfl)) pa_nil)) pa_nil)))
  (pss_cons (ps_expr (pe_m D_Line_read_choice T.c_Line.cl (hr.mono (by omega)) (passOut rfl rfl rfl rfl) (pv 0) (pa_cons (pe_tup (pa_cons pe_str pa_nil)) pa_nil)))
  (pss_cons (ps_set (i := 4) sc_read_recording.nd rfl (Or.inl rfl) (pe_m D_Line_read_known_name T.c_Line.cl (hr.mono (by omega)) (passOut rfl rfl rfl rfl) (pv 0) (pa_cons (pe_f D_names_of (hr.mono (by omega)) (passOut rfl rfl rfl rfl) (pa_cons (pe_ix ix_tup (pv 2) (pe_gi T.g_SATELLITES) (fun _ _ => rfl)) pa_nil)) pa_nil)))
  (pss_cons (ps_set (i := 5) sc_read_recording.nd rfl (Or.inl rfl) (pe_m D_Line_read_field T.c_Line.cl (hr.mono (by omega)) (passOut rfl rfl rfl rfl) (pv 0) (pa_cons pe_str (pa_cons pe_int (pa_cons (pe_op op_sub (pv 1) pe_int) pa_nil)))))
  (pss_cons (ps_set (i := 6) sc_read_recording.nd rfl (Or.inl rfl) (pe_m D_Line_read_field T.c_Line.cl (hr.mono (by omega)) (passOut rfl rfl rfl rfl) (pv 0) (pa_cons pe_str (pa_cons (pv 5) (pa_cons (pe_callB (call_min2 rfl) (by rfl) B.min (by decide +kernel) (pa_cons (pe_op op_add (pv 5) (ClX.pe_cval (pe_ga T.c_World.gC) rfl)) (pa_cons (pe_op op_sub (pv 1) pe_int) pa_nil))) pa_nil)))))
  (pss_cons (ps_set (i := 7) sc_read_recording.nd rfl (Or.inl rfl) (pe_m D_Line_read_field T.c_Line.cl (hr.mono (by omega)) (passOut rfl rfl rfl rfl) (pv 0) (pa_cons pe_str (pa_cons pe_int (pa_cons (pe_op op_sub (pv 1) (pv 6)) pa_nil)))))
  (pss_cons (ps_set (i := 8) sc_read_recording.nd rfl (Or.inl rfl) (pe_m D_Line_read_field T.c_Line.cl (hr.mono (by omega)) (passOut rfl rfl rfl rfl) (pv 0) (pa_cons pe_str (pa_cons pe_int (pa_cons (pe_gi T.g_MOST_UNITS) pa_nil)))))
  (pss_cons (ps_set (i := 9) sc_read_recording.nd rfl (Or.inl rfl) (pe_m D_Line_read_field T.c_Line.cl (hr.mono (by omega)) (passOut rfl rfl rfl rfl) (pv 0) (pa_cons pe_str (pa_cons pe_int (pa_cons (pe_gi T.g_MOST_UNITS) pa_nil)))))
  (pss_cons (ps_set (i := 10) sc_read_recording.nd rfl (Or.inl rfl) (pe_m D_Line_read_field T.c_Line.cl (hr.mono (by omega)) (passOut rfl rfl rfl rfl) (pv 0) (pa_cons pe_str (pa_cons pe_int (pa_cons (pe_gi T.g_MOST_WORTH) pa_nil)))))
  (pss_cons (ps_set (i := 11) sc_read_recording.nd rfl (Or.inl rfl) (pe_m D_Line_read_field T.c_Line.cl (hr.mono (by omega)) (passOut rfl rfl rfl rfl) (pv 0) (pa_cons pe_str (pa_cons pe_int (pa_cons (pe_gi T.g_MOST_RANK) pa_nil)))))
  (pss_cons (ps_set (i := 12) sc_read_recording.nd rfl (Or.inl rfl) (pe_m D_Line_read_field T.c_Line.cl (hr.mono (by omega)) (passOut rfl rfl rfl rfl) (pv 0) (pa_cons pe_str (pa_cons pe_int (pa_cons (pv 1) pa_nil)))))
  (pss_one (ps_ret (pe_mk DI_Recording T.c_Recording (hr.mono (by omega)) (passOut rfl rfl rfl rfl) (pa_cons (pv 3) (pa_cons (pv 4) (pa_cons (pv 5) (pa_cons (pv 6) (pa_cons (pv 7) (pa_cons (pv 8) (pa_cons (pv 9) (pa_cons (pv 10) (pa_cons (pv 11) (pa_cons (pv 12) pa_nil)))))))))))))))))))))))
    , ?_⟩
  have E0 : rdRec ws h sats ns = seq2 (rdNew ws 1 ns) _ := rfl
  (obtain ⟨ls, l, xs, t1, t2, t3, t4, t5⟩ := hN; obtain ⟨_, _, g0, z0⟩ := LnX.no hL (m := "read_new_name") (by decide +kernel) (by decide +kernel) (by decide +kernel) (by decide +kernel); refine ⟨_, rfl, a, _, _, rfl, g0, z0, _, rfl, th, _, _, .ref l, rfl, rfl, t1, atI_nat (j := 2) (by rw [List.getElem?_map, t2]; rfl), l, xs, ns, rfl, t3, t4, t5, fun p H1 s1 np hp => ?_⟩; refine ⟨a, n, ws, 1, p, ns, rfl, hL.same s1, SqL.of hp, fun e he => (qe e (E0.trans (seq2_err he))).on (SameX.of s1), fun nm hnm H2 s2 L2 => ?_⟩; have E2 := E0.trans (seq2_ok hnm); have S2 := (SameX.of s1).trans s2)
  (obtain ⟨_, _, gg, zz⟩ := LnX.no L2 (m := "read_choice") (by decide +kernel) (by decide +kernel) (by decide +kernel) (by decide +kernel); refine ⟨_, rfl, a, _, _, rfl, gg, zz, (by show 1 ≤ sizeLine; decide), fun tt htt => ?_⟩; refine ⟨a, n, ws, 2, tt, [Str.ofString "by"], rfl, LnX.same L2 (same_new htt _), SqT.of upd_same, fun e he => (qe e (E2.trans (seq2_err he))).on (SameX.trans S2 (SameX.of (same_new htt _))), fun uu hm H3 ss L3 => ?_⟩; have E3 := E2.trans (seq2_ok hm); have S3 := (SameX.trans S2 (SameX.of (same_new htt _))).trans ss)
  (obtain ⟨lsk, lk, xsk, u1, u2, u3, u4, u5⟩ := NamesAt.sxX hS hL S3; obtain ⟨_, _, gg, zz⟩ := LnX.no L3 (m := "read_known_name") (by decide +kernel) (by decide +kernel) (by decide +kernel) (by decide +kernel); refine ⟨_, rfl, a, _, _, rfl, gg, zz, _, rfl, th, _, _, .ref lk, rfl, rfl, u1, atI_nat (j := 0) (by rw [List.getElem?_map, u2]; rfl), lk, xsk, _, rfl, u3, u4, u5, fun pk Hk sk npk hpk => ?_⟩; refine ⟨a, n, ws, 3, pk, _, 0, rfl, LnX.same L3 sk, SqL.of hpk, fun e he => (qe e (E3.trans (seq2_err he))).on (SameX.trans S3 (SameX.of sk)), fun jk hm H4 ss L4 => ?_⟩; have E4 := E3.trans (seq2_ok hm); have S4 := (SameX.trans S3 (SameX.of sk)).trans ss)
  (obtain ⟨_, _, gg, zz⟩ := LnX.no L4 (m := "read_field") (by decide +kernel) (by decide +kernel) (by decide +kernel) (by decide +kernel); refine ⟨_, rfl, a, _, _, rfl, gg, zz, _, rfl, _, _, rfl, rfl, a, n, ws, 4, _, _, _, rfl, L4, fun e he => (qe e (E4.trans (seq2_err he))).on S4, fun m5 hm H5 ss L5 => ?_⟩; have E5 := E4.trans (seq2_ok hm); have S5 := SameX.trans S4 ss)
  obtain ⟨tk, hv⟩ := T.v_MOST_SHIFT
  (obtain ⟨_, _, gg, zz⟩ := LnX.no L5 (m := "read_field") (by decide +kernel) (by decide +kernel) (by decide +kernel) (by decide +kernel); refine ⟨_, rfl, a, _, _, rfl, gg, zz, _, rfl, _, rfl, CW, _, _, _, rfl, T.rdW, hv, _, _, rfl, rfl, _, rfl, _, _, rfl, rfl, _, _, rfl, a, n, ws, 6, _, _, _, rfl, L5, fun e he => (qe e (E5.trans (seq2_err he))).on S5, fun m6 hm H6 ss L6 => ?_⟩; have E6 := E5.trans (seq2_ok hm); have S6 := SameX.trans S5 ss)
  (obtain ⟨_, _, gg, zz⟩ := LnX.no L6 (m := "read_field") (by decide +kernel) (by decide +kernel) (by decide +kernel) (by decide +kernel); refine ⟨_, rfl, a, _, _, rfl, gg, zz, _, rfl, _, rfl, _, _, rfl, rfl, a, n, ws, 8, _, _, _, rfl, L6, fun e he => (qe e (E6.trans (seq2_err he))).on S6, fun m7 hm H7 ss L7 => ?_⟩; have E7 := E6.trans (seq2_ok hm); have S7 := SameX.trans S6 ss)
  (obtain ⟨_, _, gg, zz⟩ := LnX.no L7 (m := "read_field") (by decide +kernel) (by decide +kernel) (by decide +kernel) (by decide +kernel); refine ⟨_, rfl, a, _, _, rfl, gg, zz, a, n, ws, 10, _, _, _, rfl, L7, fun e he => (qe e (E7.trans (seq2_err he))).on S7, fun m8 hm H8 ss L8 => ?_⟩; have E8 := E7.trans (seq2_ok hm); have S8 := SameX.trans S7 ss)
  (obtain ⟨_, _, gg, zz⟩ := LnX.no L8 (m := "read_field") (by decide +kernel) (by decide +kernel) (by decide +kernel) (by decide +kernel); refine ⟨_, rfl, a, _, _, rfl, gg, zz, a, n, ws, 12, _, _, _, rfl, L8, fun e he => (qe e (E8.trans (seq2_err he))).on S8, fun m9 hm H9 ss L9 => ?_⟩; have E9 := E8.trans (seq2_ok hm); have S9 := SameX.trans S8 ss)
  (obtain ⟨_, _, gg, zz⟩ := LnX.no L9 (m := "read_field") (by decide +kernel) (by decide +kernel) (by decide +kernel) (by decide +kernel); refine ⟨_, rfl, a, _, _, rfl, gg, zz, a, n, ws, 14, _, _, _, rfl, L9, fun e he => (qe e (E9.trans (seq2_err he))).on S9, fun m10 hm H10 ss L10 => ?_⟩; have E10 := E9.trans (seq2_ok hm); have S10 := SameX.trans S9 ss)
  (obtain ⟨_, _, gg, zz⟩ := LnX.no L10 (m := "read_field") (by decide +kernel) (by decide +kernel) (by decide +kernel) (by decide +kernel); refine ⟨_, rfl, a, _, _, rfl, gg, zz, a, n, ws, 16, _, _, _, rfl, L10, fun e he => (qe e (E10.trans (seq2_err he))).on S10, fun m11 hm H11 ss L11 => ?_⟩; have E11 := E10.trans (seq2_ok hm); have S11 := SameX.trans S10 ss)
  (obtain ⟨_, _, gg, zz⟩ := LnX.no L11 (m := "read_field") (by decide +kernel) (by decide +kernel) (by decide +kernel) (by decide +kernel); refine ⟨_, rfl, a, _, _, rfl, gg, zz, _, rfl, a, n, ws, 18, _, _, _, rfl, L11, fun e he => (qe e (E11.trans (seq2_err he))).on S11, fun m12 hm H12 ss L12 => ?_⟩; have E12 := E11.trans (seq2_ok hm); have S12 := SameX.trans S11 ss)
  refine ⟨_, rfl, _, rfl, _, rfl, _, rfl, _, rfl, _, rfl, _, rfl, _, rfl, _, rfl, _, rfl, fun x dx hx hdx ne => ?_⟩
  refine ⟨x, dx, _, _, _, _, _, _, _, _, _, _, rfl, upd_same, rfl, ?_⟩
  have sB : ∀ {fs : List (Str × V)}, Same H12 (upd (upd (upd H12 dx (.own x)) x (.ins CR dx [])) x (.ins CR dx fs)) := same_made hx hdx
  obtain ⟨o, ho⟩ := L12.there
  exact q nm E12 x _ (S12.free ho hx) (S12.trans (SameX.of sB)) (L12.same sB) ⟨x, CR, dx, _, rfl, upd_same, T.c_Recording.cl, T.n_Recording_name, lk_hit⟩
def spRdPasX (K : PySem.W.Frag) (CL CF : Addr) : Sp := fun vs H Q E => ∃ (a : Addr) (n : Int) (ws : List Str) (h : Int) (th : Addr) (sats stas ns : List Str), vs = [.ref a, .int h, .ref th] ∧ LnX CL H a n ws 1 ∧ NamesAt K H th 3 ns ∧ NamesAt K H th 0 sats ∧ NamesAt K H th 1 stas ∧ (∀ e, rdPas ws h sats stas ns = .error e → FltX CF E a H n ws e) ∧
  ∀ nm, rdPas ws h sats stas ns = .ok nm → ∀ b H', H b = none → SameX a H H' → LnX CL H' a n ws 16 → Named K H' (.ref b) nm → Q (.ref b) H'
set_option maxHeartbeats 16000000 in
theorem d_read_passX (T : TxtW K mg CL CS CT CR CP CW aS aR fS fT fR fP) (D_names_of : DefOk P w K mg base (L2N.CX P w) 1 "names_of" ["things"] (spNames K)) (D_Line_read_new_name : MDef P w K mg base (L2N.CX P w) 6 CL "read_new_name" ["self", "used"] [] (spNewNameX K CL CF))
    (D_Line_read_field : MDef P w K mg base (L2N.CX P w) 6 CL "read_field" ["self", "word", "least", "most"] [] (spFieldX CL CF)) (D_Line_read_choice : MDef P w K mg base (L2N.CX P w) 5 CL "read_choice" ["self", "choices"] [] (spChoiceX K CL CF))
    (D_Line_read_known_name : MDef P w K mg base (L2N.CX P w) 6 CL "read_known_name" ["self", "names", "least"] [.int 0] (spKnownNameX K CL CF))
    (DI_Pass : MDef P w K mg base (L2N.CX P w) 1 CP "__init__" ["self", "name", "satellite", "station", "span", "room", "energy", "fee"] [] (spI_Pass CP))
    (A : At K mg "read_pass" s_read_pass ["line", "horizon", "things"]) : DefOk P w K mg base (L2N.CX P w) 7 "read_pass" ["line", "horizon", "things"] (spRdPasX K CL CF) := by
  have B := T.L.B
  refine A.okX sc_read_pass (fun vs H Q E h => ?_) (fun f cdv A outer s H vs Q E hr h => ?_)
  · obtain ⟨a, n, ws, h, th, sats, stas, ns, rfl, _⟩ := h
    rfl
  obtain ⟨a, n, ws, h, th, sats, stas, ns, rfl, hL, hN, hS, hT, qe, q⟩ := h
  refine ⟨_, pss_cons (ps_set (i := 3) sc_read_pass.nd rfl (Or.inl rfl) (pe_m D_Line_read_new_name T.c_Line.cl (hr.mono (by omega)) (passOut rfl rfl rfl rfl) (pv 0) (pa_cons (pe_f D_names_of (hr.mono (by omega)) (passOut rfl rfl rfl rfl) (pa_cons (pe_ix ix_tup (pv 2) (pe_gi T.g_PASSES) (fun _ _ => rfl)) pa_nil)) pa_nil)))
  (pss_cons (ps_expr (pe_m D_Line_read_choice T.c_Line.cl (hr.mono (by omega)) (passOut rfl rfl rfl rfl) (pv 0) (pa_cons (pe_tup (pa_cons pe_str pa_nil)) pa_nil)))
  (pss_cons (ps_set (i := 4) sc_read_pass.nd rfl (Or.inl rfl) (pe_m D_Line_read_known_name T.c_Line.cl (hr.mono (by omega)) (passOut rfl rfl rfl rfl) (pv 0) (pa_cons (pe_f D_names_of (hr.mono (by omega)) (passOut rfl rfl rfl rfl) (pa_cons (pe_ix ix_tup (pv 2) (pe_gi T.g_SATELLITES) (fun _ _ => rfl)) pa_nil)) pa_nil)))
  (pss_cons (ps_expr (pe_m D_Line_read_choice T.c_Line.cl (hr.mono (by omega)) (passOut rfl rfl rfl rfl) (pv 0) (pa_cons (pe_tup (pa_cons pe_str pa_nil)) pa_nil)))
  (pss_cons (ps_set (i := 5) sc_read_pass.nd rfl (Or.inl rfl) (pe_m D_Line_read_known_name T.c_Line.cl (hr.mono (by omega)) (passOut rfl rfl rfl rfl) (pv 0) (pa_cons (pe_f D_names_of (hr.mono (by omega)) (passOut rfl rfl rfl rfl) (pa_cons (pe_ix ix_tup (pv 2) (pe_gi T.g_STATIONS) (fun _ _ => rfl)) pa_nil)) pa_nil)))
  (pss_cons (ps_set (i := 6) sc_read_pass.nd rfl (Or.inl rfl) (pe_m D_Line_read_field T.c_Line.cl (hr.mono (by omega)) (passOut rfl rfl rfl rfl) (pv 0) (pa_cons pe_str (pa_cons pe_int (pa_cons (pe_op op_sub (pv 1) pe_int) pa_nil)))))
  (pss_cons (ps_set (i := 7) sc_read_pass.nd rfl (Or.inl rfl) (pe_m D_Line_read_field T.c_Line.cl (hr.mono (by omega)) (passOut rfl rfl rfl rfl) (pv 0) (pa_cons pe_str (pa_cons (pe_op op_add (pv 6) pe_int) (pa_cons (pv 1) pa_nil)))))
  (pss_cons (ps_set (i := 8) sc_read_pass.nd rfl (Or.inl rfl) (pe_m D_Line_read_field T.c_Line.cl (hr.mono (by omega)) (passOut rfl rfl rfl rfl) (pv 0) (pa_cons pe_str (pa_cons pe_int (pa_cons (pe_gi T.g_MOST_UNITS) pa_nil)))))
  (pss_cons (ps_set (i := 9) sc_read_pass.nd rfl (Or.inl rfl) (pe_m D_Line_read_field T.c_Line.cl (hr.mono (by omega)) (passOut rfl rfl rfl rfl) (pv 0) (pa_cons pe_str (pa_cons pe_int (pa_cons (pe_gi T.g_MOST_UNITS) pa_nil)))))
  (pss_cons (ps_set (i := 10) sc_read_pass.nd rfl (Or.inl rfl) (pe_m D_Line_read_field T.c_Line.cl (hr.mono (by omega)) (passOut rfl rfl rfl rfl) (pv 0) (pa_cons pe_str (pa_cons pe_int (pa_cons (pe_gi T.g_MOST_FEE) pa_nil)))))
  (pss_one (ps_ret (pe_mk DI_Pass T.c_Pass (hr.mono (by omega)) (passOut rfl rfl rfl rfl) (pa_cons (pv 3) (pa_cons (pv 4) (pa_cons (pv 5) (pa_cons (pe_tup (pa_cons (pv 6) (pa_cons (pv 7) pa_nil))) (pa_cons (pv 8) (pa_cons (pv 9) (pa_cons (pv 10) pa_nil)))))))))))))))))))
    , ?_⟩
  have E0 : rdPas ws h sats stas ns = seq2 (rdNew ws 1 ns) _ := rfl
  (obtain ⟨ls, l, xs, t1, t2, t3, t4, t5⟩ := hN; obtain ⟨_, _, g0, z0⟩ := LnX.no hL (m := "read_new_name") (by decide +kernel) (by decide +kernel) (by decide +kernel) (by decide +kernel); refine ⟨_, rfl, a, _, _, rfl, g0, z0, _, rfl, th, _, _, .ref l, rfl, rfl, t1, atI_nat (j := 3) (by rw [List.getElem?_map, t2]; rfl), l, xs, ns, rfl, t3, t4, t5, fun p H1 s1 np hp => ?_⟩; refine ⟨a, n, ws, 1, p, ns, rfl, hL.same s1, SqL.of hp, fun e he => (qe e (E0.trans (seq2_err he))).on (SameX.of s1), fun nm hnm H2 s2 L2 => ?_⟩; have E2 := E0.trans (seq2_ok hnm); have S2 := (SameX.of s1).trans s2)
  (obtain ⟨_, _, gg, zz⟩ := LnX.no L2 (m := "read_choice") (by decide +kernel) (by decide +kernel) (by decide +kernel) (by decide +kernel); refine ⟨_, rfl, a, _, _, rfl, gg, zz, (by show 1 ≤ sizeLine; decide), fun tt htt => ?_⟩; refine ⟨a, n, ws, 2, tt, [Str.ofString "by"], rfl, LnX.same L2 (same_new htt _), SqT.of upd_same, fun e he => (qe e (E2.trans (seq2_err he))).on (SameX.trans S2 (SameX.of (same_new htt _))), fun uu hm H3 ss L3 => ?_⟩; have E3 := E2.trans (seq2_ok hm); have S3 := (SameX.trans S2 (SameX.of (same_new htt _))).trans ss)
  (obtain ⟨lsk, lk, xsk, u1, u2, u3, u4, u5⟩ := NamesAt.sxX hS hL S3; obtain ⟨_, _, gg, zz⟩ := LnX.no L3 (m := "read_known_name") (by decide +kernel) (by decide +kernel) (by decide +kernel) (by decide +kernel); refine ⟨_, rfl, a, _, _, rfl, gg, zz, _, rfl, th, _, _, .ref lk, rfl, rfl, u1, atI_nat (j := 0) (by rw [List.getElem?_map, u2]; rfl), lk, xsk, _, rfl, u3, u4, u5, fun pk Hk sk npk hpk => ?_⟩; refine ⟨a, n, ws, 3, pk, _, 0, rfl, LnX.same L3 sk, SqL.of hpk, fun e he => (qe e (E3.trans (seq2_err he))).on (SameX.trans S3 (SameX.of sk)), fun jk hm H4 ss L4 => ?_⟩; have E4 := E3.trans (seq2_ok hm); have S4 := (SameX.trans S3 (SameX.of sk)).trans ss)
  (obtain ⟨_, _, gg, zz⟩ := LnX.no L4 (m := "read_choice") (by decide +kernel) (by decide +kernel) (by decide +kernel) (by decide +kernel); refine ⟨_, rfl, a, _, _, rfl, gg, zz, (by show 1 ≤ sizeLine; decide), fun tt htt => ?_⟩; refine ⟨a, n, ws, 4, tt, [Str.ofString "over"], rfl, LnX.same L4 (same_new htt _), SqT.of upd_same, fun e he => (qe e (E4.trans (seq2_err he))).on (SameX.trans S4 (SameX.of (same_new htt _))), fun uu hm H5 ss L5 => ?_⟩; have E5 := E4.trans (seq2_ok hm); have S5 := (SameX.trans S4 (SameX.of (same_new htt _))).trans ss)
  (obtain ⟨lsk, lk, xsk, u1, u2, u3, u4, u5⟩ := NamesAt.sxX hT hL S5; obtain ⟨_, _, gg, zz⟩ := LnX.no L5 (m := "read_known_name") (by decide +kernel) (by decide +kernel) (by decide +kernel) (by decide +kernel); refine ⟨_, rfl, a, _, _, rfl, gg, zz, _, rfl, th, _, _, .ref lk, rfl, rfl, u1, atI_nat (j := 1) (by rw [List.getElem?_map, u2]; rfl), lk, xsk, _, rfl, u3, u4, u5, fun pk Hk sk npk hpk => ?_⟩; refine ⟨a, n, ws, 5, pk, _, 0, rfl, LnX.same L5 sk, SqL.of hpk, fun e he => (qe e (E5.trans (seq2_err he))).on (SameX.trans S5 (SameX.of sk)), fun jk hm H6 ss L6 => ?_⟩; have E6 := E5.trans (seq2_ok hm); have S6 := (SameX.trans S5 (SameX.of sk)).trans ss)
  (obtain ⟨_, _, gg, zz⟩ := LnX.no L6 (m := "read_field") (by decide +kernel) (by decide +kernel) (by decide +kernel) (by decide +kernel); refine ⟨_, rfl, a, _, _, rfl, gg, zz, _, rfl, _, _, rfl, rfl, a, n, ws, 6, _, _, _, rfl, L6, fun e he => (qe e (E6.trans (seq2_err he))).on S6, fun m7 hm H7 ss L7 => ?_⟩; have E7 := E6.trans (seq2_ok hm); have S7 := SameX.trans S6 ss)
  (obtain ⟨_, _, gg, zz⟩ := LnX.no L7 (m := "read_field") (by decide +kernel) (by decide +kernel) (by decide +kernel) (by decide +kernel); refine ⟨_, rfl, a, _, _, rfl, gg, zz, _, rfl, _, _, rfl, rfl, _, rfl, a, n, ws, 8, _, _, _, rfl, L7, fun e he => (qe e (E7.trans (seq2_err he))).on S7, fun m8 hm H8 ss L8 => ?_⟩; have E8 := E7.trans (seq2_ok hm); have S8 := SameX.trans S7 ss)
  (obtain ⟨_, _, gg, zz⟩ := LnX.no L8 (m := "read_field") (by decide +kernel) (by decide +kernel) (by decide +kernel) (by decide +kernel); refine ⟨_, rfl, a, _, _, rfl, gg, zz, a, n, ws, 10, _, _, _, rfl, L8, fun e he => (qe e (E8.trans (seq2_err he))).on S8, fun m9 hm H9 ss L9 => ?_⟩; have E9 := E8.trans (seq2_ok hm); have S9 := SameX.trans S8 ss)
  (obtain ⟨_, _, gg, zz⟩ := LnX.no L9 (m := "read_field") (by decide +kernel) (by decide +kernel) (by decide +kernel) (by decide +kernel); refine ⟨_, rfl, a, _, _, rfl, gg, zz, a, n, ws, 12, _, _, _, rfl, L9, fun e he => (qe e (E9.trans (seq2_err he))).on S9, fun m10 hm H10 ss L10 => ?_⟩; have E10 := E9.trans (seq2_ok hm); have S10 := SameX.trans S9 ss)
  (obtain ⟨_, _, gg, zz⟩ := LnX.no L10 (m := "read_field") (by decide +kernel) (by decide +kernel) (by decide +kernel) (by decide +kernel); refine ⟨_, rfl, a, _, _, rfl, gg, zz, a, n, ws, 14, _, _, _, rfl, L10, fun e he => (qe e (E10.trans (seq2_err he))).on S10, fun m11 hm H11 ss L11 => ?_⟩; have E11 := E10.trans (seq2_ok hm); have S11 := SameX.trans S10 ss)
  refine ⟨_, rfl, _, rfl, _, rfl, _, rfl, _, rfl, (by show 2 ≤ sizeLine; decide), fun sp hsp => ⟨_, rfl, _, rfl, _, rfl, fun x dx hx hdx ne => ?_⟩⟩
  refine ⟨x, dx, _, _, _, _, _, _, _, rfl, upd_same, rfl, ?_⟩
  have S12 := S11.trans (SameX.of (same_new hsp (.tup [.int m7, .int m8])))
  have sB : ∀ {fs : List (Str × V)}, Same (upd H11 sp (.tup [.int m7, .int m8])) (upd (upd (upd (upd H11 sp (.tup [.int m7, .int m8])) dx (.own x)) x (.ins CP dx [])) x (.ins CP dx fs)) := same_made hx hdx
  have L14 := L11.same (same_new hsp (.tup [.int m7, .int m8]))
  obtain ⟨o, ho⟩ := L14.there
  exact q nm E11 x _ (S12.free ho hx) (S12.trans (SameX.of sB)) (L14.same sB) ⟨x, CP, dx, _, rfl, upd_same, T.c_Pass.cl, T.n_Pass_name, lk_hit⟩
end
end DP
namespace DP
open PySem PySem.Spec PyProof.Rows L2
def mostN (i : Nat) : Int := mostK.getD i 0
def nmsAt (N : List (List Str)) (i : Nat) : List Str := N.getD i []
def rdSort (ws : List Str) (k : Nat) (N : List (List Str)) : Rd Nat := seq2 (rdDue ws 0) fun u => if u ∈ sortsL then (if idxS u sortsL < k then .error (0, "line out of order") else if ((nmsAt N (idxS u sortsL)).length : Int) = mostN (idxS u sortsL) then .error (0, "too many lines") else .ok (idxS u sortsL)) else .error (0, "unexpected word")
def rdKind (i : Nat) (ws : List Str) (h : Int) (N : List (List Str)) : Rd Str := if i = 0 then rdSat ws h (nmsAt N 0) else if i = 1 then rdSta ws (nmsAt N 1) else if i = 2 then rdRec ws h (nmsAt N 0) (nmsAt N 2) else rdPas ws h (nmsAt N 0) (nmsAt N 1) (nmsAt N 3)
def finK (i : Nat) (ws : List Str) : Nat := if i = 0 then ws.length else if i = 1 then 6 else if i = 2 then 20 else 16
def rdLine (h : Int) (k : Nat) (N : List (List Str)) (ws : List Str) : Rd (Nat × List (List Str)) :=
  seq2 (rdSort ws k N) fun i => seq2 (rdKind i ws h N) fun nm => seq2 (rdFinish ws (finK i ws)) fun _ => .ok (i, N.set i (nmsAt N i ++ [nm]))
abbrev Flt := Int × Int × Str
def rdAll (h : Int) : List (List Str) → Int → Nat → List (List Str) → Except Flt Unit
  | [], _, _, _ => .ok ()
  | ws :: rest, n, k, N => match rdLine h k N ws with
    | .error e => .error (n, colW ws e.1, e.2)
    | .ok s => rdAll h rest (n + 1) s.1 s.2
theorem rdSort_lt {ws : List Str} {k : Nat} {N : List (List Str)} {i : Nat} (h : rdSort ws k N = .ok i) : i < 4 := by
  unfold rdSort seq2 at h
  split at h
  · cases h
  · rename_i u e
    dsimp only at h
    split at h
    · rename_i hm
      have h3 : idxS u sortsL < sortsL.length := (List.getElem?_eq_some_iff.mp (idxS_at hm)).1
      split at h
      · cases h
      · split at h
        · cases h
        · cases h
          exact h3
    · cases h
section
variable {P : Program} {w : World} {K : PySem.W.Frag} {mg : Str → Option Value} {base : Heap} {CL CS CT CR CP CW aS aR fS fT fR fP CF : Addr}
/-- the four lists of the things so far -/
structure ThN (K : PySem.W.Frag) (H : Hp) (th : Addr) (ls : List Addr) (N : List (List Str)) : Prop where
  tup : H th = some (.tup (ls.map V.ref))
  nd : ls.Nodup
  len : ls.length = 4
  lenN : N.length = 4
  at_ : ∀ i l, ls[i]? = some l → ∃ xs, H l = some (.lst xs) ∧ Paired (Named K H) xs (nmsAt N i) ∧ (nmsAt N i).length ≤ 100 ∧ ∀ y ∈ xs, ∃ t, y = V.ref t
theorem ThN.same {H H' : Hp} {th : Addr} {ls : List Addr} {N : List (List Str)} (h : ThN K H th ls N) (s : Same H H') : ThN K H' th ls N :=
  ⟨s _ _ h.tup, h.nd, h.len, h.lenN, fun i l hl => by
    obtain ⟨xs, h1, h2, h3, h4⟩ := h.at_ i l hl
    exact ⟨xs, s _ _ h1, Paired.mapP h2 fun _ _ z => z.same s, h3, h4⟩⟩
theorem LnX.named {H H' : Hp} {a : Addr} {n : Int} {ws : List Str} {r : Nat} (hL : LnX CL H a n ws r) (s : SameX a H H') {x : V} {nm : Str} (h : Named K H x nm) : Named K H' x nm := by
  obtain ⟨dx, wl, g1, g2⟩ := hL.ex
  exact s.named g1 (lnF_no (by decide +kernel) (by decide +kernel) (by decide +kernel) (by decide +kernel)) h
theorem ThN.sx {H H' : Hp} {a : Addr} {n : Int} {ws : List Str} {r : Nat} {th : Addr} {ls : List Addr} {N : List (List Str)} (h : ThN K H th ls N) (hL : LnX CL H a n ws r) (s : SameX a H H') : ThN K H' th ls N := by
  obtain ⟨dx, wl, g1, g2⟩ := hL.ex
  refine ⟨s _ _ (ne_of h.tup g1 (fun z => nomatch z)) h.tup, h.nd, h.len, h.lenN, fun i l hl => ?_⟩
  obtain ⟨xs, h1, h2, h3, h4⟩ := h.at_ i l hl
  exact ⟨xs, s _ _ (ne_of h1 g1 (fun z => nomatch z)) h1, Paired.mapP h2 fun _ _ z => hL.named s z, h3, h4⟩
theorem ThN.names {H : Hp} {th : Addr} {ls : List Addr} {N : List (List Str)} (h : ThN K H th ls N) {i : Nat} (hi : i < 4) : NamesAt K H th i (nmsAt N i) := by
  have hil : i < ls.length := by rw [h.len]; exact hi
  have hl : ls[i]? = some ls[i] := List.getElem?_eq_getElem hil
  obtain ⟨xs, h1, h2, h3, h4⟩ := h.at_ i _ hl
  exact ⟨ls, _, xs, SqT.of h.tup, hl, SqL.of h1, h2, h3⟩
theorem Named.up {H : Hp} {L : Addr} {ys : List V} {o : HO} {x : V} {nm : Str} (h : Named K H x nm) (e : H L = some (.lst ys)) : Named K (L2.upd H L o) x nm := by
  obtain ⟨b, D, dy, gs, e1, e2, e3⟩ := h
  exact ⟨b, D, dy, gs, e1, by rw [upd_ne (ne_of e2 e (fun z => nomatch z))]; exact e2, e3⟩
theorem ThN.push {H : Hp} {th : Addr} {ls : List Addr} {N : List (List Str)} {i : Nat} {l b : Addr} {xs : List V} {nm : Str} (h : ThN K H th ls N) (hl : ls[i]? = some l) (e : H l = some (.lst xs)) (k : Named K H (.ref b) nm) (hz : (nmsAt N i).length < 100) :
    ThN K (L2.upd H l (.lst (xs ++ [.ref b]))) th ls (N.set i (nmsAt N i ++ [nm])) := by
  have hi : i < 4 := by rw [← h.len]; exact (List.getElem?_eq_some_iff.mp hl).1
  refine ⟨by rw [upd_ne (ne_of h.tup e (fun z => nomatch z))]; exact h.tup, h.nd, h.len, by rw [List.length_set]; exact h.lenN, fun j l' hj => ?_⟩
  obtain ⟨ys, h1, h2, h3, h4⟩ := h.at_ j l' hj
  by_cases c : j = i
  · subst c
    rw [hl] at hj
    cases hj
    rw [e] at h1
    cases h1
    have en : nmsAt (N.set j (nmsAt N j ++ [nm])) j = nmsAt N j ++ [nm] := by
      show (N.set j _).getD j [] = _
      rw [List.getD_eq_getElem?_getD, List.getElem?_set_self (by rw [h.lenN]; exact hi)]
      rfl
    rw [en]
    refine ⟨_, upd_same, paired_snoc (Paired.mapP h2 fun _ _ z => z.up e) (k.up e), by rw [List.length_append, List.length_singleton]; omega, fun y hy => ?_⟩
    rcases List.mem_append.mp hy with hy | hy
    · exact h4 y hy
    · exact ⟨b, List.mem_singleton.mp hy⟩
  · have en : nmsAt (N.set i (nmsAt N i ++ [nm])) j = nmsAt N j := by
      show (N.set i _).getD j [] = N.getD j []
      rw [List.getD_eq_getElem?_getD, List.getElem?_set_ne (fun z => c z.symm), List.getD_eq_getElem?_getD]
    have nl : l' ≠ l := fun z => by
      subst z
      obtain ⟨q1, e1⟩ := List.getElem?_eq_some_iff.mp hl
      obtain ⟨q2, e2⟩ := List.getElem?_eq_some_iff.mp hj
      exact c ((List.getElem_inj h.nd).mp (e2.trans e1.symm))
    rw [en]
    exact ⟨ys, by rw [upd_ne nl]; exact h1, Paired.mapP h2 fun _ _ z => z.up e, h3, h4⟩
/-- a line stays where a list of objects is changed -/
theorem LnX.up {H : Hp} {a L : Addr} {n : Int} {ws : List Str} {r : Nat} {ys : List V} {o : HO} (h : LnX CL H a n ws r) (hne : ws ≠ []) (e : H L = some (.lst ys)) (hr : ∀ y ∈ ys, ∃ t, y = V.ref t) : LnX CL (L2.upd H L o) a n ws r := by
  obtain ⟨dx, wl, h1, h2⟩ := h.ex
  refine ⟨⟨dx, wl, by rw [upd_ne (ne_of h1 e (fun z => nomatch z))]; exact h1, ?_⟩, h.n0, h.n1, h.le, h.wl, h.sz⟩
  rw [upd_ne]
  · exact h2
  · intro z
    rw [z, e] at h2
    have e2 : ys = ws.map V.str := HO.lst.inj (Option.some.inj h2)
    cases ws with
    | nil => exact hne rfl
    | cons w wr =>
      obtain ⟨t, ht⟩ := hr (.str w) (by rw [e2]; exact List.mem_cons_self)
      cases ht
theorem LnX.sx {H H' : Hp} {a b : Addr} {n m : Int} {ws vs : List Str} {r q : Nat} (h : LnX CL H a n ws r) (hL : LnX CL H b m vs q) (ne : a ≠ b) (z : SameX b H H') : LnX CL H' a n ws r := by
  obtain ⟨dx', wl', g1, g2⟩ := hL.ex
  obtain ⟨dx, wl, h1, h2⟩ := h.ex
  exact ⟨⟨dx, wl, z _ _ ne h1, z _ _ (ne_of h2 g1 (fun z => nomatch z)) h2⟩, h.n0, h.n1, h.le, h.wl, h.sz⟩
def spSortX (K : PySem.W.Frag) (CL CF : Addr) : Sp := fun vs H Q E => ∃ (a : Addr) (n : Int) (ws : List Str) (k : Nat) (th : Addr) (ls : List Addr) (N : List (List Str)), vs = [.ref a, .int (k : Int), .ref th] ∧ LnX CL H a n ws 0 ∧ ThN K H th ls N ∧ (∀ e, rdSort ws k N = .error e → FltX CF E a H n ws e) ∧
  ∀ i, rdSort ws k N = .ok i → ∀ H', SameX a H H' → LnX CL H' a n ws 1 → Q (.int (i : Int)) H'
theorem d_read_sortX (T : TxtW K mg CL CS CT CR CP CW aS aR fS fT fR fP) (D_Line_due : MDef P w K mg base (L2N.CX P w) 4 CL "due" ["self"] [] (spDueX CL CF)) (D_Line_refuse : MDef P w K mg base (L2N.CX P w) 3 CL "refuse" ["self", "reason"] [] (spRefuse CL CF)) (D_Line_step : MDef P w K mg base (L2N.CX P w) 1 CL "step" ["self"] [] (spStepX CL)) (D_most_things : DefOk P w K mg base (L2N.CX P w) 1 "most_things" ["sort"] spMost)
    (A : At K mg "read_sort" s_read_sort ["line", "ahead", "things"]) : DefOk P w K mg base (L2N.CX P w) 5 "read_sort" ["line", "ahead", "things"] (spSortX K CL CF) := by
  have B := T.L.B
  refine A.okX sc_read_sort (fun vs H Q E h => ?_) (fun f cdv A outer s H vs Q E hr h => ?_)
  · obtain ⟨a, n, ws, k, th, ls, N, rfl, _⟩ := h
    rfl
  obtain ⟨a, n, ws, k, th, ls, N, rfl, hL, hT, qe, q⟩ := h
  refine ⟨_, pss_cons (ps_set (i := 3) sc_read_sort.nd rfl (Or.inl rfl) (pe_m0 D_Line_due T.c_Line.cl (hr.mono (by omega)) (passOut rfl rfl rfl rfl) (pv 0)))
  (pss_cons (ps_if (pt_cmpR op_notIn_seq (pv 3) (pe_ga T.g_SORTS) (by rfl))
      (pss_one (ps_expr (pe_m D_Line_refuse T.c_Line.cl (hr.mono (by omega)) (passOut rfl rfl rfl rfl) (pv 0) (pa_cons pe_str pa_nil))))
      (pss_nil))
  (pss_cons (ps_set (i := 4) sc_read_sort.nd rfl (Or.inl rfl) (pe_bm PySem.F.plainAttrs_tuple PySem.F.slot_tuple_index PySem.F.type_tuple_index mt_tup_index (pe_ga T.g_SORTS) (pa_cons (pv 3) pa_nil)))
  (pss_cons (ps_if (pt_cmpR op_lt (pv 4) (pv 1) (nomark _))
      (pss_one (ps_expr (pe_m D_Line_refuse T.c_Line.cl (hr.mono (by omega)) (passOut rfl rfl rfl rfl) (pv 0) (pa_cons pe_str pa_nil))))
      (pss_nil))
  (pss_cons (ps_if (pt_cmpR op_eq (pe_callB (call_len_seq) (by rfl) B.len (by decide +kernel) (pa_cons (pe_ix ix_tup (pv 2) (pv 4) (fun _ _ => rfl)) pa_nil)) (pe_f D_most_things (hr.mono (by omega)) (passOut rfl rfl rfl rfl) (pa_cons (pv 4) pa_nil)) (nomark _))
      (pss_one (ps_expr (pe_m D_Line_refuse T.c_Line.cl (hr.mono (by omega)) (passOut rfl rfl rfl rfl) (pv 0) (pa_cons pe_str pa_nil))))
      (pss_nil))
  (pss_cons (ps_expr (pe_m0 D_Line_step T.c_Line.cl (hr.mono (by omega)) (passOut rfl rfl rfl rfl) (pv 0)))
  (pss_one (ps_ret (pv 4))))))))
    , ?_⟩
  have E0 : rdSort ws k N = seq2 (rdDue ws 0) _ := rfl
  obtain ⟨_, _, g0, z0⟩ := LnX.no hL (m := "due") (by decide +kernel) (by decide +kernel) (by decide +kernel) (by decide +kernel)
  refine ⟨_, rfl, a, _, _, rfl, g0, z0, a, n, ws, 0, rfl, hL, fun e he => qe e (E0.trans (seq2_err he)), fun u hu => ?_⟩
  have E1 := E0.trans (seq2_ok hu)
  refine ⟨_, rfl, aS, _, rfl, .inr (T.t_SORTS H), rfl, flat_strs, _, rfl, ?_⟩
  by_cases hm : u ∈ sortsL
  · have E2 := E1.trans (if_pos hm)
    refine iteF' (by rw [show (([("satellite" : Str), "station", "recording", "pass"]).map V.str) = sortsL.map V.str from rfl, inV_str, decide_eq_true hm]; rfl) ?_
    obtain ⟨o, ho1, ho2, ho3⟩ := T.k_SORTS
    refine ⟨.inr (.inl ⟨rfl, o, ho1, ho2, ho3⟩), _, rfl, aS, sortsL, u, idxS u sortsL, rfl, rfl, T.t_SORTS H, idxS_at hm, fun m h1 h2 => idxS_first h1 h2 rfl, ?_⟩
    refine ⟨_, rfl, _, rfl, _, _, rfl, rfl, _, rfl, ?_⟩
    by_cases hk : idxS u sortsL < k
    · refine iteT' (decide_eq_true (by omega)) ?_
      (obtain ⟨_, _, g1, z1⟩ := LnX.no hL (m := "refuse") (by decide +kernel) (by decide +kernel) (by decide +kernel) (by decide +kernel); exact ⟨_, rfl, a, _, _, rfl, g1, z1, a, n, ws, 0, _, rfl, hL, by decide +kernel, (qe _ (E2.trans (if_pos hk))).same⟩)
    · have E3 := E2.trans (if_neg hk)
      refine iteF' (decide_eq_false (by omega)) ?_
      have h4 : idxS u sortsL < 4 := (List.getElem?_eq_some_iff.mp (idxS_at hm)).1
      have hil : idxS u sortsL < ls.length := by rw [hT.len]; exact h4
      have hl : ls[idxS u sortsL]? = some ls[idxS u sortsL] := List.getElem?_eq_getElem hil
      obtain ⟨xs, a1, a2, a3, a4⟩ := hT.at_ _ _ hl
      have hmk : mostK[idxS u sortsL]? = some (mostN (idxS u sortsL)) := by
        unfold mostN
        rw [List.getD_eq_getElem?_getD, List.getElem?_eq_getElem (show idxS u sortsL < mostK.length from h4)]
        rfl
      refine ⟨_, rfl, _, rfl, th, _, _, .ref _, rfl, rfl, SqT.of hT.tup, atI_nat (by rw [List.getElem?_map, hl]; rfl), _, xs, rfl, .inl (SqL.of a1), _, rfl, idxS u sortsL, _, rfl, hmk, fun H1 s1 => ?_⟩
      have lx := paired_len a2
      have L1 := hL.same s1
      refine ⟨rfl, _, rfl, ?_⟩
      by_cases hf : ((nmsAt N (idxS u sortsL)).length : Int) = mostN (idxS u sortsL)
      · refine iteT' (decide_eq_true (by rw [lx, hf])) ?_
        (obtain ⟨_, _, g1, z1⟩ := LnX.no L1 (m := "refuse") (by decide +kernel) (by decide +kernel) (by decide +kernel) (by decide +kernel); exact ⟨_, rfl, a, _, _, rfl, g1, z1, a, n, ws, 0, _, rfl, L1, by decide +kernel, ((qe _ (E3.trans (if_pos hf))).on (SameX.of s1)).same⟩)
      · refine iteF' (decide_eq_false fun z => hf (by have := V.int.inj z; rw [← lx]; exact this)) ?_
        obtain ⟨_, _, g1, z1⟩ := LnX.no L1 (m := "step") (by decide +kernel) (by decide +kernel) (by decide +kernel) (by decide +kernel)
        refine ⟨_, rfl, a, _, _, rfl, g1, z1, a, n, ws, 0, rfl, L1, hL.at hu, fun H2 s2 L2 => ?_⟩
        exact ⟨_, rfl, q _ (E3.trans (if_neg hf)) H2 ((SameX.of s1).trans s2) L2⟩
  · refine iteT' (by rw [show (([("satellite" : Str), "station", "recording", "pass"]).map V.str) = sortsL.map V.str from rfl, inV_str, decide_eq_false hm]; rfl) ?_
    (obtain ⟨_, _, g1, z1⟩ := LnX.no hL (m := "refuse") (by decide +kernel) (by decide +kernel) (by decide +kernel) (by decide +kernel); exact ⟨_, rfl, a, _, _, rfl, g1, z1, a, n, ws, 0, _, rfl, hL, by decide +kernel, (qe _ (E1.trans (if_neg hm))).same⟩)
end
end DP
namespace DP
open PySem PySem.Spec PyProof.Rows L2
structure HeldX (P : Program) (w : World) (K : PySem.W.Frag) (mg : Str → Option Value) (base : Heap) (k : Nat) (f : Addr) (sp : Sp) : Prop where
  ex : ∃ (fd : FuncData) (ps : List Str), FnOk P w K mg base (L2N.CX P w) k f fd ps sp ∧ PySem.W.keepIn K (.ref f) = true ∧ Binds K fd ps []
def tCallAX (i : Nat) (S : Addr → Option Sp) (E : XK) (t : TA) : TE := fun σ H Q => ∃ f sp, σ[i]? = some (some (.ref f)) ∧ S f = some sp ∧ t σ H fun vs H1 => sp vs H1 Q E
theorem pe_callAX {X : Cx} {k i : Nat} {E : XK} {x : Str} {p pos : Pos} {e : Expr} {es : List Expr} {t : TA} {S : Addr → Option Sp} (A : ∀ f sp, S f = some sp → HeldX X.prog X.w X.K X.mg X.base k f sp) (hr : Room k X.A) (hx : Passes (L2N.CX X.prog X.w) X E) (hN : X.N[i]? = some x) (hv : Vis X.env.scope x) (ha : PA X (e :: es) t)
    (hdb : (x == ("__debug__" : Str)) = false := by decide) (hcd : (x == ("__classdict__" : Str)) = false := by decide)
    (he : starEach (e :: es) X.env = (false, eval e X.env) :: starEach es X.env := by rfl) (hpl : (backTo pos (starEach es X.env)).any (·.1) = false := by rfl) : PE X (.Call (.Name x p) (e :: es) [] pos) (tCallAX i S E t) := by
  refine ⟨fun pins s σ H Q I h => ?_⟩
  obtain ⟨f, sp, hs, hS, ht⟩ := h
  obtain ⟨fd, ps, F, hk, hb⟩ := (A f sp hS).ex
  refine (pe_callL (i := i) (f := f) (sp := sp) (dvs := []) (E := E) F hr hN hv hk hb .nil hx ha hdb hcd he hpl).run pins s σ H Q I ⟨hs, ?_⟩
  have e0 : (fun (vs : List V) (H1 : Hp) => sp (vs ++ []) H1 Q E) = fun vs H1 => sp vs H1 Q E := by
    funext vs H1
    rw [List.append_nil]
  show t σ H (fun vs H1 => sp (vs ++ []) H1 Q E)
  rw [e0]
  exact ht
section
variable {P : Program} {w : World} {K : PySem.W.Frag} {mg : Str → Option Value} {base : Heap} {CL CS CT CR CP CW aS aR fS fT fR fP CF : Addr}
theorem heldX_of {x : Str} {ps : List Str} {sp : Sp} {k : Nat} {f : Addr} (D : DefOk P w K mg base (L2N.CX P w) k x ps sp) (h : mg x = some (.ref f)) : HeldX P w K mg base k f sp := by
  obtain ⟨g, fd, G, m, kp, b, _⟩ := D.ex
  rw [h] at m
  cases m
  exact ⟨fd, ps, G, kp, b⟩
theorem DefOk.impX {CX : CXT} {x : Str} {ps : List Str} {k : Nat} {sp sp' : Sp} (D : DefOk P w K mg base CX k x ps sp) (h : ∀ vs H Q E, sp' vs H Q E → sp vs H Q E) : DefOk P w K mg base CX k x ps sp' := by
  obtain ⟨f, fd, G, m, kp, b, lk⟩ := D.ex
  exact ⟨f, fd, G.imp h, m, kp, b, lk⟩
/-- a reader of the i-th sort -/
def spRdX (K : PySem.W.Frag) (CL CF : Addr) (i : Nat) : Sp := fun vs H Q E => ∃ (a : Addr) (n : Int) (ws : List Str) (h : Int) (th : Addr) (ls : List Addr) (N : List (List Str)), vs = [.ref a, .int h, .ref th] ∧ LnX CL H a n ws 1 ∧ ThN K H th ls N ∧ h ≤ 500 ∧ (∀ e, rdKind i ws h N = .error e → FltX CF E a H n ws e) ∧
  ∀ nm, rdKind i ws h N = .ok nm → ∀ b H', H b = none → SameX a H H' → LnX CL H' a n ws (finK i ws) → Named K H' (.ref b) nm → Q (.ref b) H'
def rdSX (K : PySem.W.Frag) (CL CF fS fT fR fP : Addr) (f : Addr) : Option Sp := if f = fS then some (spRdX K CL CF 0) else if f = fT then some (spRdX K CL CF 1) else if f = fR then some (spRdX K CL CF 2) else if f = fP then some (spRdX K CL CF 3) else none
theorem SameA.free {as : List Addr} {H H' : Hp} {x : Addr} (s : SameA as H H') (h : H' x = none) (n : x ∉ as) : H x = none := by
  cases q : H x with
  | none => rfl
  | some u =>
    have e := s x u n q
    rw [h] at e
    cases e
def spThingsX (K : PySem.W.Frag) (CL CF : Addr) : Sp := fun vs H Q E => ∃ (p : Addr) (as : List Addr) (h n0 : Int) (lns : List (List Str)), vs = [.ref p, .int h] ∧ SqL K H p (as.map V.ref) ∧ as.Nodup ∧ h ≤ 500 ∧ as.length = lns.length ∧ lns.length ≤ 100 ∧ (∀ l ∈ lns, l ≠ []) ∧
  (∀ (j : Nat) a l, as[j]? = some a → lns[j]? = some l → LnX CL H a (n0 + j) l 0) ∧ (∀ f, rdAll h lns n0 0 [[], [], [], []] = .error f → FltE CF E (SameA as H) f.1 f.2.1 f.2.2) ∧
  (rdAll h lns n0 0 [[], [], [], []] = .ok () → ∀ th ls N H', SameA as H H' → ThN K H' th ls N → Q (.ref th) H')
set_option maxHeartbeats 16000000 in
theorem d_read_thingsX (T : TxtW K mg CL CS CT CR CP CW aS aR fS fT fR fP) (D_read_sort : DefOk P w K mg base (L2N.CX P w) 5 "read_sort" ["line", "ahead", "things"] (spSortX K CL CF))
    (D1 : DefOk P w K mg base (L2N.CX P w) 7 "read_satellite" ["line", "horizon", "things"] (spRdSatX K CL CF)) (D2 : DefOk P w K mg base (L2N.CX P w) 7 "read_station" ["line", "_", "things"] (spRdStaX K CL CF))
    (D3 : DefOk P w K mg base (L2N.CX P w) 7 "read_recording" ["line", "horizon", "things"] (spRdRecX K CL CF)) (D4 : DefOk P w K mg base (L2N.CX P w) 7 "read_pass" ["line", "horizon", "things"] (spRdPasX K CL CF))
    (n1 : fT ≠ fS) (n2 : fR ≠ fS) (n3 : fR ≠ fT) (n4 : fP ≠ fS) (n5 : fP ≠ fT) (n6 : fP ≠ fR)
    (D_Line_finish : MDef P w K mg base (L2N.CX P w) 5 CL "finish" ["self"] [] (spFinishX CL CF)) (A : At K mg "read_things" s_read_things ["lines", "horizon"]) : DefOk P w K mg base (L2N.CX P w) 8 "read_things" ["lines", "horizon"] (spThingsX K CL CF) := by
  have B := T.L.B
  have D1' := D1.impX (sp' := spRdX K CL CF 0) fun vs H Q E ⟨a, n, ws, h, th, ls, N, e0, hL, hT, hh, qe, q⟩ => ⟨a, n, ws, h, th, _, e0, hL, hT.names (by decide), hh, qe, q⟩
  have D2' := D2.impX (sp' := spRdX K CL CF 1) fun vs H Q E ⟨a, n, ws, h, th, ls, N, e0, hL, hT, hh, qe, q⟩ => ⟨a, n, ws, h, th, _, e0, hL, hT.names (by decide), qe, q⟩
  have D3' := D3.impX (sp' := spRdX K CL CF 2) fun vs H Q E ⟨a, n, ws, h, th, ls, N, e0, hL, hT, hh, qe, q⟩ => ⟨a, n, ws, h, th, _, _, e0, hL, hT.names (by decide), hT.names (by decide), qe, q⟩
  have D4' := D4.impX (sp' := spRdX K CL CF 3) fun vs H Q E ⟨a, n, ws, h, th, ls, N, e0, hL, hT, hh, qe, q⟩ => ⟨a, n, ws, h, th, _, _, _, e0, hL, hT.names (by decide), hT.names (by decide), hT.names (by decide), qe, q⟩
  have HA : ∀ f sp, rdSX K CL CF fS fT fR fP f = some sp → HeldX P w K mg base 7 f sp := fun f sp h => by
    unfold rdSX at h
    by_cases c1 : f = fS
    · rw [if_pos c1] at h
      cases h
      rw [c1]
      exact heldX_of D1' T.r_satellite
    rw [if_neg c1] at h
    by_cases c2 : f = fT
    · rw [if_pos c2] at h
      cases h
      rw [c2]
      exact heldX_of D2' T.r_station
    rw [if_neg c2] at h
    by_cases c3 : f = fR
    · rw [if_pos c3] at h
      cases h
      rw [c3]
      exact heldX_of D3' T.r_recording
    rw [if_neg c3] at h
    by_cases c4 : f = fP
    · rw [if_pos c4] at h
      cases h
      rw [c4]
      exact heldX_of D4' T.r_pass
    rw [if_neg c4] at h
    cases h
  have S0 : rdSX K CL CF fS fT fR fP fS = some (spRdX K CL CF 0) := by unfold rdSX; rw [if_pos rfl]
  have S1 : rdSX K CL CF fS fT fR fP fT = some (spRdX K CL CF 1) := by unfold rdSX; rw [if_neg n1, if_pos rfl]
  have S2 : rdSX K CL CF fS fT fR fP fR = some (spRdX K CL CF 2) := by unfold rdSX; rw [if_neg n2, if_neg n3, if_pos rfl]
  have S3 : rdSX K CL CF fS fT fR fP fP = some (spRdX K CL CF 3) := by unfold rdSX; rw [if_neg n4, if_neg n5, if_neg n6, if_pos rfl]
  have SS : ∀ i, i < 4 → ∃ g, ([fS, fT, fR, fP])[i]? = some g ∧ rdSX K CL CF fS fT fR fP g = some (spRdX K CL CF i) := fun i hi => by
    match i, hi with
    | 0, _ => exact ⟨_, rfl, S0⟩
    | 1, _ => exact ⟨_, rfl, S1⟩
    | 2, _ => exact ⟨_, rfl, S2⟩
    | 3, _ => exact ⟨_, rfl, S3⟩
  refine A.okX sc_read_things (fun vs H Q E h => ?_) (fun f cdv A outer s H vs Q E hr h => ?_)
  · obtain ⟨p, as, h, n0, lns, rfl, _⟩ := h
    rfl
  obtain ⟨p, as, h, n0, lns, rfl, hp, hnd, hh, hlen, hl100, hne, hpr, qe, q⟩ := h
  refine ⟨_, pss_cons (ps_set (i := 2) sc_read_things.nd rfl (Or.inl rfl) (pe_tup (pa_cons (pe_lst pa_nil) (pa_cons (pe_lst pa_nil) (pa_cons (pe_lst pa_nil) (pa_cons (pe_lst pa_nil) pa_nil))))))
  (pss_cons (ps_set (i := 3) sc_read_things.nd rfl (Or.inl rfl) pe_int)
  (pss_cons (ps_for (passes_of rfl) rfl (pi_list (pv 0)) (pg_name (i := 4) sc_read_things.nd rfl (Or.inl rfl))
      (pss_cons (ps_set (i := 3) sc_read_things.nd rfl (Or.inl rfl) (pe_f D_read_sort (hr.mono (by omega)) (passOut rfl rfl rfl rfl) (pa_cons (pv 4) (pa_cons (pv 3) (pa_cons (pv 2) pa_nil)))))
      (pss_cons (ps_set (i := 5) sc_read_things.nd rfl (Or.inl rfl) (pe_ix ix_tup (pe_ga T.g_READERS) (pv 3) (fun _ _ => rfl)))
      (pss_cons (ps_expr (pe_bm PySem.F.plainAttrs_list PySem.F.slot_list_append PySem.F.type_list_append mt_append (pe_ix ix_tup (pv 2) (pv 3) (fun _ _ => rfl)) (pa_cons (pe_callAX (i := 5) (S := rdSX K CL CF fS fT fR fP) HA (hr.mono (by omega)) (passOut rfl rfl rfl rfl) rfl (Or.inl rfl) (pa_cons (pv 4) (pa_cons (pv 1) (pa_cons (pv 2) pa_nil)))) pa_nil)))
      (pss_one (ps_expr (pe_m0 D_Line_finish T.c_Line.cl (hr.mono (by omega)) (passOut rfl rfl rfl rfl) (pv 4))))))))
  (pss_one (ps_ret (pv 2)))))
    , ?_⟩
  refine ⟨Nat.zero_le _, fun l0 h0 => ⟨Nat.zero_le _, fun l1 h1 => ⟨Nat.zero_le _, fun l2 h2 => ⟨Nat.zero_le _, fun l3 h3 => ⟨(by show 4 ≤ sizeLine; decide), fun th hth => ?_⟩⟩⟩⟩⟩
  have d01 : l0 ≠ l1 := fun z => by rw [← z, upd_same] at h1; cases h1
  have h1' : H l1 = none := by rw [upd_ne d01.symm] at h1; exact h1
  have d12 : l1 ≠ l2 := fun z => by rw [← z, upd_same] at h2; cases h2
  have d02 : l0 ≠ l2 := fun z => by rw [← z, upd_ne d01, upd_same] at h2; cases h2
  have h2' : H l2 = none := by rw [upd_ne d12.symm, upd_ne d02.symm] at h2; exact h2
  have d23 : l2 ≠ l3 := fun z => by rw [← z, upd_same] at h3; cases h3
  have d13 : l1 ≠ l3 := fun z => by rw [← z, upd_ne d12, upd_same] at h3; cases h3
  have d03 : l0 ≠ l3 := fun z => by rw [← z, upd_ne d02, upd_ne d01, upd_same] at h3; cases h3
  have h3' : H l3 = none := by rw [upd_ne d23.symm, upd_ne d13.symm, upd_ne d03.symm] at h3; exact h3
  have t3 : l3 ≠ th := fun z => by rw [← z, upd_same] at hth; cases hth
  have t2 : l2 ≠ th := fun z => by rw [← z, upd_ne d23, upd_same] at hth; cases hth
  have t1 : l1 ≠ th := fun z => by rw [← z, upd_ne d13, upd_ne d12, upd_same] at hth; cases hth
  have t0 : l0 ≠ th := fun z => by rw [← z, upd_ne d03, upd_ne d02, upd_ne d01, upd_same] at hth; cases hth
  have hth' : H th = none := by rw [upd_ne t3.symm, upd_ne t2.symm, upd_ne t1.symm, upd_ne t0.symm] at hth; exact hth
  have sS : Same H (upd (upd (upd (upd (upd H l0 (.lst [])) l1 (.lst [])) l2 (.lst [])) l3 (.lst [])) th (.tup [.ref l0, .ref l1, .ref l2, .ref l3])) := same_at hth' (same_at h3' (same_at h2' (same_at h1' (same_new h0 _) _) _) _) _
  have fr : ∀ l ∈ [l0, l1, l2, l3], H l = none := fun l hl => by
    rcases List.mem_cons.mp hl with rfl | hl
    · exact h0
    rcases List.mem_cons.mp hl with rfl | hl
    · exact h1'
    rcases List.mem_cons.mp hl with rfl | hl
    · exact h2'
    · rw [List.mem_singleton.mp hl]; exact h3'
  have hasl : ∀ a ∈ as, ∃ o, H a = some o ∧ ∀ xs, o ≠ .lst xs := fun a ha => by
    obtain ⟨j, hj, ej⟩ := List.mem_iff_getElem.mp ha
    have hjl : j < lns.length := by rw [← hlen]; exact hj
    have hL := hpr j a _ (by rw [List.getElem?_eq_getElem hj, ej]) (List.getElem?_eq_getElem hjl)
    obtain ⟨dx, wl, g1, g2⟩ := hL.ex
    exact ⟨_, g1, fun xs z => nomatch z⟩
  refine ⟨_, rfl, p, rfl, ⟨_, sS.seq hp⟩, for_list (K := K) (a := p) (xs := as.map V.ref) (fun i σ H' => ∃ (k : Nat) (N : List (List Str)) (y4 y5 : Option V), σ = [some (.ref p), some (.int h), some (.ref th), some (.int (k : Int)), y4, y5] ∧ rdAll h lns n0 0 [[], [], [], []] = rdAll h (lns.drop i) (n0 + i) k N ∧
      ThN K H' th [l0, l1, l2, l3] N ∧ (∀ j, (nmsAt N j).length ≤ i) ∧ (∀ (j : Nat) a l, i ≤ j → as[j]? = some a → lns[j]? = some l → LnX CL H' a (n0 + j) l 0) ∧ SameA as H H') ⟨0, [[], [], [], []], none, none, rfl, by rw [List.drop_zero]; simp, ?_, ?_, ?_, SameA.of sS⟩ (fun i σ H' _ hI => ?_) (fun i x σ H1 hx hI => ?_) (fun σ H1 hI => ?_)⟩
  · have nm0 : ∀ i, nmsAt [[], [], [], []] i = [] := fun i => by
      show ([[], [], [], []] : List (List Str)).getD i [] = []
      match i with
      | 0 => rfl
      | 1 => rfl
      | 2 => rfl
      | 3 => rfl
      | i + 4 => rfl
    refine ⟨upd_same, ?_, rfl, rfl, fun i l hl => ?_⟩
    · simp only [List.nodup_cons, List.mem_cons, List.not_mem_nil, or_false, not_or, not_false_iff, List.nodup_nil, and_true]
      exact ⟨⟨d01, d02, d03⟩, ⟨d12, d13⟩, d23⟩
    · rw [nm0 i]
      refine ⟨[], ?_, .nil, Nat.zero_le _, fun y hy => absurd hy List.not_mem_nil⟩
      have hm := List.mem_of_getElem? hl
      rcases List.mem_cons.mp hm with rfl | hm
      · rw [upd_ne t0, upd_ne d03, upd_ne d02, upd_ne d01, upd_same]
      rcases List.mem_cons.mp hm with rfl | hm
      · rw [upd_ne t1, upd_ne d13, upd_ne d12, upd_same]
      rcases List.mem_cons.mp hm with rfl | hm
      · rw [upd_ne t2, upd_ne d23, upd_same]
      · rw [List.mem_singleton.mp hm, upd_ne t3, upd_same]
  · intro j
    match j with
    | 0 => exact Nat.le_refl 0
    | 1 => exact Nat.le_refl 0
    | 2 => exact Nat.le_refl 0
    | 3 => exact Nat.le_refl 0
    | j + 4 => exact Nat.le_refl 0
  · intro j a l _ ha hl
    exact (hpr j a l ha hl).same sS
  · obtain ⟨k, N, y4, y5, rfl, _, _, _, _, hs⟩ := hI
    rcases hp with (hp | ⟨o, hp⟩) | hp
    · exact .inl (.inl (hs _ _ (fun z => by
        obtain ⟨o, e1, e2⟩ := hasl _ z
        rw [hp] at e1
        exact e2 _ (Option.some.inj e1).symm) hp))
    · exact .inl (.inr ⟨o, hs _ _ (fun z => by
        obtain ⟨j, hj, ej⟩ := List.mem_iff_getElem.mp z
        have hjl : j < lns.length := by rw [← hlen]; exact hj
        have hL := hpr j _ _ (by rw [List.getElem?_eq_getElem hj, ej]) (List.getElem?_eq_getElem hjl)
        obtain ⟨dx, wl, g1, g2⟩ := hL.ex
        rw [hp] at g1
        cases g1) hp⟩)
    · exact .inr hp
  · obtain ⟨k, N, y4, y5, rfl, heq, hT, hN, hLs, hs⟩ := hI
    rw [List.getElem?_map] at hx
    cases ha : as[i]? with
    | none => rw [ha] at hx; cases hx
    | some a =>
    rw [ha] at hx
    have ex : V.ref a = x := Option.some.inj hx
    subst ex
    have hmem : a ∈ as := List.mem_of_getElem? ha
    have hi : i < lns.length := by
      rw [← hlen]
      exact (List.getElem?_eq_some_iff.mp ha).1
    have far : ∀ j b, i + 1 ≤ j → as[j]? = some b → b ≠ a := fun j b hj hb z => by
      subst z
      obtain ⟨q1, e1⟩ := List.getElem?_eq_some_iff.mp ha
      obtain ⟨q2, e2⟩ := List.getElem?_eq_some_iff.mp hb
      have := (List.getElem_inj hnd).mp (e1.trans e2.symm)
      omega
    have hws : lns[i]? = some lns[i] := List.getElem?_eq_getElem hi
    have hwne := hne _ (List.getElem_mem hi)
    generalize lns[i] = ws at hws hwne
    have hL := hLs i a ws (Nat.le_refl _) ha hws
    have step : rdAll h (lns.drop i) (n0 + i) k N = (match rdLine h k N ws with | .error e => .error (n0 + i, colW ws e.1, e.2) | .ok s => rdAll h (lns.drop (i + 1)) (n0 + i + 1) s.1 s.2) := by
      obtain ⟨hi2, ei⟩ := List.getElem?_eq_some_iff.mp hws
      rw [List.drop_eq_getElem_cons hi2, ei]
      rfl
    have fltE : ∀ e, rdLine h k N ws = .error e → FltX CF E a H1 (n0 + i) ws e := fun e he d H' s' hd => by
      have z := qe (n0 + i, colW ws e.1, e.2) (by rw [heq, step, he])
      exact z d H' (hs.trans (SameA.ofX s' hmem)) hd
    have E0 : rdLine h k N ws = seq2 (rdSort ws k N) _ := rfl
    refine ⟨_, rfl, _, rfl, _, rfl, a, n0 + i, ws, k, th, [l0, l1, l2, l3], N, rfl, hL, hT, fun e he => fltE e (E0.trans (seq2_err he)), fun i1 hi1 H2 s1 L1 => ?_⟩
    have E1 := E0.trans (seq2_ok hi1)
    have i4 := rdSort_lt hi1
    have hT1 := hT.sx hL s1
    obtain ⟨g, hg1, hg2⟩ := SS i1 i4
    refine ⟨_, rfl, aR, _, _, .ref g, rfl, rfl, T.t_READERS _, atI_nat (by rw [show ([V.ref fS, V.ref fT, V.ref fR, V.ref fP]) = [fS, fT, fR, fP].map V.ref from rfl, List.getElem?_map, hg1]; rfl), ?_⟩
    have hil : i1 < [l0, l1, l2, l3].length := i4
    have hl : [l0, l1, l2, l3][i1]? = some [l0, l1, l2, l3][i1] := List.getElem?_eq_getElem hil
    generalize [l0, l1, l2, l3][i1] = lk at hl
    obtain ⟨xs, ax1, bx, lx100, rf⟩ := hT1.at_ i1 lk hl
    refine ⟨_, rfl, _, rfl, th, _, _, .ref lk, rfl, rfl, SqT.of hT1.tup, atI_nat (by rw [List.getElem?_map, hl]; rfl), .inl ⟨rfl, _, SqL.of ax1⟩, g, _, rfl, hg2, _, rfl, _, rfl, _, rfl, ?_⟩
    refine ⟨a, n0 + i, ws, h, th, _, N, rfl, L1, hT1, hh, fun e he => (fltE e (E1.trans (seq2_err he))).on s1, fun nm hnm b H3 nb s2 L2 o2 => ?_⟩
    have E2 := E1.trans (seq2_ok hnm)
    have hT2 := hT1.sx L1 s2
    obtain ⟨xs2, ax2, bx2, lx2, rf2⟩ := hT2.at_ i1 lk hl
    have lxx := paired_len bx2
    have hNi := hN i1
    refine ⟨lk, xs2, .ref b, rfl, rfl, ax2, small1000 (by omega), ?_⟩
    have L3 := L2.up (o := .lst (xs2 ++ [.ref b])) hwne ax2 rf2
    have s12 := s1.trans s2
    have hlkas : lk ∉ as := fun z => by
      obtain ⟨o, e1, _⟩ := hasl _ z
      rw [fr lk (List.mem_of_getElem? hl)] at e1
      cases e1
    have sA3 : SameA as H (upd H3 lk (.lst (xs2 ++ [.ref b]))) := SameA.new (fr lk (List.mem_of_getElem? hl)) (hs.trans (SameA.ofX s12 hmem))
    obtain ⟨_, _, g5, z5⟩ := LnX.no L3 (m := "finish") (by decide +kernel) (by decide +kernel) (by decide +kernel) (by decide +kernel)
    refine ⟨_, rfl, a, _, _, rfl, g5, z5, a, n0 + i, ws, finK i1 ws, rfl, L3, fun e he d H' s' hd => ?_, fun hfin => ?_⟩
    · have z := qe (n0 + i, colW ws e.1, e.2) (by rw [heq, step, E2.trans (seq2_err he)])
      exact z d H' (sA3.trans (SameA.ofX s' hmem)) hd
    · have E3 := E2.trans (seq2_ok hfin)
      refine ⟨i1, N.set i1 (nmsAt N i1 ++ [nm]), some (.ref a), some (.ref g), rfl, ?_, hT2.push hl ax2 o2 (by omega), fun j => ?_, fun j d l hj hd hl2 => ?_, sA3⟩
      · rw [heq, step, E3]
        have : (n0 + (i : Int) + 1) = n0 + ((i + 1 : Nat) : Int) := by omega
        rw [← this]
      · by_cases c : j = i1
        · subst c
          show ((N.set j _).getD j []).length ≤ _
          rw [List.getD_eq_getElem?_getD, List.getElem?_set_self (by rw [hT.lenN]; exact i4)]
          show (nmsAt N j ++ [nm]).length ≤ _
          rw [List.length_append, List.length_singleton]
          omega
        · have := hN j
          show ((N.set i1 _).getD j []).length ≤ _
          rw [List.getD_eq_getElem?_getD, List.getElem?_set_ne (fun z => c z.symm), ← List.getD_eq_getElem?_getD]
          show (nmsAt N j).length ≤ _
          omega
      · have nd := far j d hj hd
        exact (((hLs j d l (by omega) hd hl2).sx hL nd s1).sx L1 nd s2).up (hne l (List.mem_of_getElem? hl2)) ax2 rf2
  · obtain ⟨k, N, y4, y5, rfl, heq, hT, hN, hLs, hs⟩ := hI
    rw [List.length_map, hlen, List.drop_length] at heq
    exact ⟨_, rfl, q (by rw [heq]; rfl) th _ N H1 hs hT⟩
end
end DP
namespace DP
open PySem PySem.Spec PyProof.Rows L2
/-- a line's words stand as they are -/
structure LnOk (l : List Str) : Prop where
  ne : l ≠ []
  sp : Txt.split (row l) sp = l
  len : (row l).length ≤ 100000
  wl : ∀ w ∈ l, w.length ≤ 40
  sz : l.length ≤ 2000
def rdWorld : List (List Str) → Except Flt Int
  | [] => .error (1, 1, "missing line")
  | l :: rest => match seq2 (rdField l 0 "horizon" 1 500) fun h => seq2 (rdFinish l 2) fun _ => .ok h with
    | .error e => .error (1, colW l e.1, e.2)
    | .ok h => match rdAll h rest 2 0 [[], [], [], []] with
      | .error f => .error f
      | .ok _ => .ok h
def rdText (lns : List (List Str)) (last : Str) : Except Flt Int := if last = Str.empty then rdWorld lns else .error ((lns.length : Int) + 1, (last.length : Int) + 1, "newline expected")
theorem rdField_hi {ws : List Str} {r : Nat} {x : Str} {lo hi m : Int} (h : rdField ws r x lo hi = .ok m) : lo ≤ m ∧ m ≤ hi := by
  unfold rdField at h
  split at h
  · cases h
  · exact (rdNum_at h).2
section
variable {P : Program} {w : World} {K : PySem.W.Frag} {mg : Str → Option Value} {base : Heap} {CL CS CT CR CP CW aS aR fS fT fR fP C CF : Addr}
def spLnInitX (C : Addr) : Sp := fun vs H Q _ => ∃ (x dx : Addr) (n : Int) (ws : List Str), vs = [.ref x, .int n, .str (row ws)] ∧ H x = some (.ins C dx []) ∧ LnOk ws ∧ 0 ≤ n ∧ n < 1000000 ∧
  ∀ H', SameX x H H' → LnX C H' x n ws 0 → Q .non H'
theorem d_Line_initX (T : TxtL K mg C) (A : MAt K C "__init__" "Line.__init__" s_Line___init__ ["self", "number", "row"]) : MDef P w K mg base CX0 1 C "__init__" ["self", "number", "row"] [] (spLnInitX C) := by
  refine A.ok sc_Line___init__ (fun vs H Q E h => ?_) (fun f cdv A outer s H vs Q E hr h => ?_)
  · obtain ⟨x, dx, n, ws, rfl, _⟩ := h
    rfl
  obtain ⟨x, dx, n, ws, rfl, hx, ok, n0, n1, q⟩ := h
  refine ⟨_, pss_cons (ps_fld (pv 0) (pv 1) rfl)
  (pss_cons (ps_fld (pv 0) (pe_split (pv 2) pe_str) rfl)
  (pss_cons (ps_fld (pv 0) pe_int rfl)
  (pss_one (ps_fld (pv 0) pe_int rfl))))
    , ?_⟩
  refine ⟨_, rfl, _, rfl, x, C, dx, _, rfl, hx, T.c_Line.cl, T.n_number, (by show 0 < 1000; decide), ?_⟩
  refine ⟨_, rfl, ⟨_, rfl⟩, _, sp, rfl, rfl, by decide +kernel, Nat.le_trans (Nat.add_le_add_right ok.len 2) (by decide), fun wl hwl => ?_⟩
  have exw : x ≠ wl := fun z => by
    rw [← z, upd_same] at hwl
    cases hwl
  refine ⟨_, rfl, x, C, dx, _, rfl, (upd_ne exw).trans upd_same, T.c_Line.cl, T.n_words, (by repeat (first | refine put_lt0 ?_ | refine put_lt ?_ | (show _ < _; decide))), ?_⟩
  refine ⟨_, rfl, x, C, dx, _, rfl, upd_same, T.c_Line.cl, T.n_read, (by repeat (first | refine put_lt0 ?_ | refine put_lt ?_ | (show _ < _; decide))), ?_⟩
  refine ⟨_, rfl, x, C, dx, _, rfl, upd_same, T.c_Line.cl, T.n_column, (by repeat (first | refine put_lt0 ?_ | refine put_lt ?_ | (show _ < _; decide))), ?_⟩
  have hwl0 : H wl = none := by
    rw [upd_ne exw.symm] at hwl
    exact hwl
  refine q _ (fun b o nb hb => ?_) ⟨⟨dx, wl, ?_, ?_⟩, n0, n1, Nat.zero_le _, ok.wl, ok.sz⟩
  · rw [upd_ne nb, upd_ne nb, upd_ne nb, upd_ne (ne_of_none hb hwl0), upd_ne nb]
    exact hb
  · rw [upd_same]
    unfold lnF
    repeat (first | rw [put_nil] | rw [put_miss (by decide +kernel)])
    rfl
  · rw [upd_ne exw.symm, upd_ne exw.symm, upd_ne exw.symm, upd_same, ok.sp]
def spLinesX (C CF : Addr) : Sp := fun vs H Q E => ∃ (text : Str) (lns : List (List Str)) (last : Str), vs = [.str text] ∧ Txt.split text nl = lns.map row ++ [last] ∧ (∀ l ∈ lns, LnOk l) ∧ lns.length ≤ 100 ∧ text.length ≤ 1000000 ∧ last.length ≤ 100000 ∧
  (last ≠ Str.empty → FltE CF E (Same H) ((lns.length : Int) + 1) ((last.length : Int) + 1) "newline expected") ∧
  (last = Str.empty → ∀ (p : Addr) (as : List Addr) (H' : Hp), Same H H' → H p = none → (∀ a ∈ as, H a = none) → as.Nodup → H' p = some (.lst (as.map V.ref)) → as.length = lns.length → (∀ (j : Nat) a l, as[j]? = some a → lns[j]? = some l → LnX C H' a (1 + j) l 0) → Q (.ref p) H')
set_option maxHeartbeats 8000000 in
theorem d_lines_ofX (T : TxtL K mg C) (TF : TfAt K mg CF) (SP : SupP P) (DI_Line : MDef P w K mg base CX0 1 C "__init__" ["self", "number", "row"] [] (spLnInitX C)) (A : At K mg "lines_of" s_lines_of ["text"]) : DefOk P w K mg base (L2N.CX P w) 4 "lines_of" ["text"] (spLinesX C CF) := by
  have B := T.B
  refine A.okX sc_lines_of (fun vs H Q E h => ?_) (fun f cdv A outer s H vs Q E hr h => ?_)
  · obtain ⟨text, lns, last, rfl, _⟩ := h
    rfl
  obtain ⟨text, lns, last, rfl, hsplit, hok, hn, hz, hlast, qe, q⟩ := h
  obtain ⟨fI, fd, i1, i2, ox, bd, F1⟩ := d_TF (w := w) (base := base) (CX := CX0) TF SP
  refine ⟨_, pss_cons (ps_set (i := 1) sc_lines_of.nd rfl (Or.inl rfl) (pe_split (pv 0) pe_str))
  (pss_cons (ps_set (i := 2) sc_lines_of.nd rfl (Or.inl rfl) (pe_bm0 PySem.F.plainAttrs_list PySem.F.slot_list_pop PySem.F.type_list_pop mt_pop (pv 1)))
  (pss_cons (ps_if (pt_cmpR op_ne (pv 2) pe_str (nomark _))
      (pss_one (L2N.ps_raise rfl (L2N.takes_of rfl rfl rfl rfl) (pmkN_oex ox i1 i2 F1 (hr.mono (by omega)) bd pass0 rfl TF.g (pa_cons (pe_op op_add (pe_callB (call_len_seq) (by rfl) B.len (by decide +kernel) (pa_cons (pv 1) pa_nil)) pe_int) (pa_cons (pe_op op_add (pe_callB (call_len_str) (by rfl) B.len (by decide +kernel) (pa_cons (pv 2) pa_nil)) pe_int) (pa_cons pe_str pa_nil))))))
      (pss_nil))
  (pss_one (ps_ret (pe_lc (own := [("number", 3), ("row", 4)])  rfl sc_lines_of.nd (pi_enumS (by rfl) B.enumerate (pa_cons (pv 1) pa_nil) (pk_cons pe_int pk_nil)) (blkOk_by (own := [("number", 3), ("row", 4)]) (N := ["text", "rows", "last", "number", "row"]) (sc := defScope s_lines_of) (by decide +kernel)) (fun _ _ _ _ _ => pg_tupK (K := K) (n := 2) rfl (by rfl) (pgs_cons (pg_name (i := 3) sc_lines_of.nd rfl (Or.inl rfl)) (pgs_cons (pg_name (i := 4) sc_lines_of.nd rfl (Or.inl rfl)) (pgs_nil)))) (fun _ _ _ _ _ => pts_nil) (fun _ _ _ _ _ => (pe_mk DI_Line T.c_Line (hr.mono (by omega)) pass0 (pa_cons (pv 3) (pa_cons (pv 4) pa_nil)))))))))
    , ?_⟩
  refine ⟨_, rfl, ⟨_, rfl⟩, _, nl, rfl, rfl, by decide +kernel, Nat.le_trans (Nat.add_le_add_right hz 2) (by decide), fun rl hrl => ?_⟩
  have e0 : upd H rl (.lst ((Txt.split text nl).map V.str)) = upd H rl (.lst ((lns.map row).map V.str ++ [.str last])) := by
    rw [hsplit, List.map_append]
    rfl
  rw [e0]
  refine ⟨_, rfl, .inl ⟨rfl, _, SqL.of upd_same⟩, rl, _, .str last, rfl, rfl, upd_same, by rw [List.length_append, List.length_singleton, Nat.add_sub_cancel, List.getElem?_append_right (Nat.le_refl _), Nat.sub_self]; rfl, ?_⟩
  rw [upd_upd, List.dropLast_concat]
  refine ⟨_, rfl, rfl, _, rfl, ?_⟩
  have sS : Same H (upd H rl (.lst ((lns.map row).map V.str))) := same_new hrl _
  by_cases hl : last = Str.empty
  · refine iteF' (by rw [decide_eq_true (show V.str last = V.str (Str.ofString "") by rw [hl]; exact congrArg V.str (by decide +kernel))]; rfl) ?_
    refine ⟨_, rfl, _, _, 1, rfl, rfl, SqL.of upd_same, by decide, by decide, fun D hD => ?_⟩
    have hrlD : rl ≠ D := fun z => by
      rw [← z, upd_same] at hD
      cases hD
    have hD0 : H D = none := by
      rw [upd_ne hrlD.symm] at hD
      exact hD
    refine lc_it (walk_enumS (xs := (lns.map row).map V.str)) (fun i H' => ∃ as : List Addr, as.length = i ∧ H' D = some (.lst (as.map V.ref)) ∧ Same (upd H rl (.lst ((lns.map row).map V.str))) H' ∧ (∀ a ∈ as, H a = none) ∧ as.Nodup ∧ ∀ (j : Nat) a l, as[j]? = some a → lns[j]? = some l → LnX C H' a (1 + j) l 0)
      ⟨[], rfl, upd_same, same_new hD _, fun _ z => absurd z List.not_mem_nil, List.nodup_nil, fun j a l z => by simp at z⟩ (fun i H1 _ ⟨as, _, _, z, _⟩ => z.seq (SqL.of upd_same)) (fun i x H1 H2 hi hI hy => ?_) (fun H1 hI => ?_)
    · obtain ⟨T', x2, rfl, hT', rfl, hx2⟩ := hy
      obtain ⟨as, ha, hDD, hs, hfr, hnd, hpr⟩ := hI
      have hi' : i < lns.length := by
        rw [List.length_map, List.length_map] at hi
        exact hi
      have ex2 : x2 = .str (row lns[i]) := by
        rw [List.getElem?_map, List.getElem?_map, List.getElem?_eq_getElem hi'] at hx2
        exact (Option.some.inj hx2).symm
      subst ex2
      have hok' := hok _ (List.getElem_mem hi')
      have s12 := same_new hT' (.tup [.int (1 + (i : Int)), .str (row lns[i])])
      refine ⟨T', _, rfl, SqT.of upd_same, rfl, _, _, rfl, _, _, rfl, rfl, rfl, _, rfl, _, rfl, fun x dx hx hdx ne => ?_⟩
      refine ⟨x, dx, _, lns[i], rfl, upd_same, hok', by omega, by omega, fun H3 s3 L3 => ⟨rfl, ?_⟩⟩
      have s13 : Same H1 H3 := s12.trans (same_mk hx hdx s3)
      have hxH : H x = none := (sS.trans (hs.trans s12)).free hx
      refine ⟨_, s13 _ _ hDD, by rw [List.length_map, ha]; exact small1000 (by omega), as ++ [x], by rw [List.length_append, ha, List.length_singleton], by rw [upd_same, List.map_append]; rfl, same_at hD (hs.trans s13) _, ?_, ?_, ?_⟩
      · intro a hma
        rcases List.mem_append.mp hma with hma | hma
        · exact hfr a hma
        · rw [List.mem_singleton.mp hma]; exact hxH
      · refine List.nodup_append.mpr ⟨hnd, List.pairwise_singleton _ _, fun a hma b hmb z => ?_⟩
        rw [List.mem_singleton.mp hmb] at z
        subst z
        obtain ⟨j, hj, ej⟩ := List.mem_iff_getElem.mp hma
        have hjl : j < lns.length := by omega
        have hla := hpr j a _ (by rw [List.getElem?_eq_getElem hj, ej]) (List.getElem?_eq_getElem hjl)
        obtain ⟨d1, d2, g1, _⟩ := hla.ex
        rw [(s12 _ _ g1)] at hx
        cases hx
      · have upL : ∀ {a : Addr} {m : Int} {l : List Str}, l ≠ [] → LnX C H3 a m l 0 → LnX C (upd H3 D (.lst (as.map V.ref ++ [.ref x]))) a m l 0 := fun {a m l} hne h => by
          obtain ⟨d1, d3, g1, g2⟩ := h.ex
          have gD := s13 _ _ hDD
          refine ⟨⟨d1, d3, by rw [upd_ne (ne_of g1 gD (fun z => nomatch z))]; exact g1, ?_⟩, h.n0, h.n1, h.le, h.wl, h.sz⟩
          have n2 : d3 ≠ D := fun z => by
            rw [z, gD] at g2
            injection g2 with g2
            injection g2 with g2
            cases l with
            | nil => exact hne rfl
            | cons b bs => cases as with
              | nil => cases g2
              | cons c cs => cases g2
          rw [upd_ne n2]
          exact g2
        intro j a l hj hlj
        have hlne := (hok l (List.mem_of_getElem? hlj)).ne
        by_cases c : j < as.length
        · rw [List.getElem?_append_left c] at hj
          exact upL hlne ((hpr j a l hj hlj).same s13)
        · have cj : j = i := by
            have := (List.getElem?_eq_some_iff.mp hj).1
            rw [List.length_append, List.length_singleton] at this
            omega
          subst cj
          rw [List.getElem?_append_right (by omega), ha, Nat.sub_self] at hj
          have ex : x = a := Option.some.inj hj
          subst ex
          rw [List.getElem?_eq_getElem hi'] at hlj
          cases hlj
          exact upL hlne L3
    · obtain ⟨as, ha, hDD, hs, hfr, hnd, hpr⟩ := hI
      rw [List.length_map, List.length_map] at ha
      exact q hl D as H1 (sS.trans hs) hD0 hfr hnd hDD ha hpr
  · refine iteT' (by rw [decide_eq_false (show ¬ V.str last = V.str (Str.ofString "") from fun z => hl ((V.str.inj z).trans (by decide +kernel)))]; rfl) ?_
    refine ⟨_, rfl, rl, _, rfl, .inl (SqL.of upd_same), _, _, rfl, rfl, _, rfl, _, rfl, Nat.le_trans hlast (by decide), _, _, rfl, rfl, (by show 3 ≤ 1000; decide), fun x hx => ?_⟩
    rw [List.length_map, List.length_map]
    refine ⟨x, _, _, _, rfl, upd_same, by omega, by omega, by omega, by omega, by decide +kernel, fun d hd dne => ?_⟩
    have hdH : upd H rl (.lst ((lns.map row).map V.str)) d = none := by rw [upd_ne dne] at hd; exact hd
    refine ⟨rfl, d, _, (upd_ne (Ne.symm dne)).trans ((upd_ne (Ne.symm dne)).trans upd_same), upd_same, hdH, qe hl d _ (fun b o hb => ?_) upd_same⟩
    have hb1 := sS _ _ hb
    have b1 : b ≠ x := ne_of_none hb1 hx
    have b2 : b ≠ d := ne_of_none hb1 hdH
    rw [upd_ne b2, del_ne b1, upd_ne b2, upd_ne b2, upd_ne b1, upd_ne b2, upd_ne b1]
    exact hb1
end
end DP
namespace DP
open PySem PySem.Spec PyProof.Rows L2
section
variable {P : Program} {w : World} {K : PySem.W.Frag} {mg : Str → Option Value} {base : Heap} {CL CS CT CR CP CW aS aR fS fT fR fP C CF : Addr}
def spWInitX (K : PySem.W.Frag) (CW : Addr) : Sp := fun vs H Q _ => ∃ (x dx : Addr) (text : Str) (h : Int) (th : Addr) (ls : List Addr) (N : List (List Str)), vs = [.ref x, .str text, .int h, .ref th] ∧ H x = some (.ins CW dx []) ∧ ThN K H th ls N ∧
  ∀ H' t0 t1 t2 t3, SameX x H H' → H' x = some (.ins CW dx (worF text h t0 t1 t2 t3)) → Q .non H'
theorem dI_WorldX (T : TxtW K mg CL CS CT CR CP CW aS aR fS fT fR fP) (A : MAt K CW "__init__" "World.__init__" s_World___init__ ["self", "text", "horizon", "things"]) : MDef P w K mg base CX0 1 CW "__init__" ["self", "text", "horizon", "things"] [] (spWInitX K CW) := by
  have B := T.L.B
  refine A.ok sc_World___init__ (fun vs H Q E h => ?_) (fun f cdv A outer s H vs Q E hr h => ?_)
  · obtain ⟨x, dx, text, h, th, ls, N, rfl, _⟩ := h
    rfl
  obtain ⟨x, dx, text, h, th, ls, N, rfl, hx, hT, q⟩ := h
  obtain ⟨l0, l1, l2, l3, rfl⟩ : ∃ l0 l1 l2 l3, ls = [l0, l1, l2, l3] := by
    have hl := hT.len
    match ls, hl with
    | [a, b, c, d], _ => exact ⟨a, b, c, d, rfl⟩
  refine ⟨_, pss_cons (ps_asg (pv 3) (pg_tup (by rfl) (pgs_cons (pg_name (i := 4) sc_World___init__.nd rfl (Or.inl rfl)) (pgs_cons (pg_name (i := 5) sc_World___init__.nd rfl (Or.inl rfl)) (pgs_cons (pg_name (i := 6) sc_World___init__.nd rfl (Or.inl rfl)) (pgs_cons (pg_name (i := 7) sc_World___init__.nd rfl (Or.inl rfl)) (pgs_nil)))))))
  (pss_cons (ps_fld (pv 0) (pv 1) rfl)
  (pss_cons (ps_fld (pv 0) (pv 2) rfl)
  (pss_cons (ps_fld (pv 0) (pe_callTy (call_tuple_of) (by rfl) B.tuple (by decide +kernel) (pa_cons (pv 4) pa_nil)) rfl)
  (pss_cons (ps_fld (pv 0) (pe_callTy (call_tuple_of) (by rfl) B.tuple (by decide +kernel) (pa_cons (pv 5) pa_nil)) rfl)
  (pss_cons (ps_fld (pv 0) (pe_callTy (call_tuple_of) (by rfl) B.tuple (by decide +kernel) (pa_cons (pv 6) pa_nil)) rfl)
  (pss_one (ps_fld (pv 0) (pe_callTy (call_tuple_of) (by rfl) B.tuple (by decide +kernel) (pa_cons (pv 7) pa_nil)) rfl)))))))
    , ?_⟩
  have cl := T.c_World.cl
  have lst : ∀ i l, ([l0, l1, l2, l3])[i]? = some l → ∃ xs, H l = some (.lst xs) ∧ l ≠ x := fun i l hl => by
    obtain ⟨xs, a1, _⟩ := hT.at_ i l hl
    exact ⟨xs, a1, ne_of a1 hx (fun z => nomatch z)⟩
  obtain ⟨x0, a0, n0⟩ := lst 0 l0 rfl
  obtain ⟨x1, a1, n1⟩ := lst 1 l1 rfl
  obtain ⟨x2, a2, n2⟩ := lst 2 l2 rfl
  obtain ⟨x3, a3, n3⟩ := lst 3 l3 rfl
  refine ⟨_, rfl, th, _, rfl, SqT.of hT.tup, rfl, _, _, rfl, _, _, rfl, _, _, rfl, _, _, rfl, rfl, ?_⟩
  refine ⟨_, rfl, _, rfl, x, CW, dx, _, rfl, hx, cl, T.n_World_text, (by show 0 < 1000; decide), ?_⟩
  rw [put_nil]
  refine ⟨_, rfl, _, rfl, x, CW, dx, _, rfl, upd_same, cl, T.n_World_horizon, (by show 1 < 1000; decide), ?_⟩
  rw [upd_upd, put_miss (by decide +kernel), put_nil]
  have z1 : SameX x H (upd H x (.ins CW dx [("text", .str text), ("horizon", .int h)])) := SameX.upd
  refine ⟨_, rfl, l0, x0, rfl, .inl ⟨SqL.of (z1 _ _ n0 a0), fun t0 ht0 => ?_⟩⟩
  have e0 : x ≠ t0 := fun z => by rw [← z, upd_same] at ht0; cases ht0
  refine ⟨_, rfl, x, CW, dx, _, rfl, (upd_ne e0).trans upd_same, cl, T.n_World_satellites, (by show 2 < 1000; decide), ?_⟩
  rw [put_miss (by decide +kernel), put_miss (by decide +kernel), put_nil]
  have z2 : SameX x H (upd (upd (upd H x (.ins CW dx [("text", .str text), ("horizon", .int h)])) t0 (.tup x0)) x (.ins CW dx [("text", .str text), ("horizon", .int h), ("satellites", .ref t0)])) := (z1.trans (SameX.of (same_new ht0 _))).trans SameX.upd
  generalize hH2 : (upd (upd (upd H x (.ins CW dx [("text", .str text), ("horizon", .int h)])) t0 (.tup x0)) x (.ins CW dx [("text", .str text), ("horizon", .int h), ("satellites", .ref t0)])) = H2 at z2
  have g2 : H2 x = some (.ins CW dx [("text", .str text), ("horizon", .int h), ("satellites", .ref t0)]) := by rw [← hH2, upd_same]
  refine ⟨_, rfl, l1, x1, rfl, .inl ⟨SqL.of (z2 _ _ n1 a1), fun t1 ht1 => ?_⟩⟩
  have e1 : x ≠ t1 := ne_of_none g2 ht1
  refine ⟨_, rfl, x, CW, dx, _, rfl, (upd_ne e1).trans g2, cl, T.n_World_stations, (by show 3 < 1000; decide), ?_⟩
  rw [put_miss (by decide +kernel), put_miss (by decide +kernel), put_miss (by decide +kernel), put_nil]
  have z3 : SameX x H (upd (upd H2 t1 (.tup x1)) x (.ins CW dx [("text", .str text), ("horizon", .int h), ("satellites", .ref t0), ("stations", .ref t1)])) := z2.trans ((SameX.of (same_new ht1 _)).trans SameX.upd)
  generalize hH3 : (upd (upd H2 t1 (.tup x1)) x (.ins CW dx [("text", .str text), ("horizon", .int h), ("satellites", .ref t0), ("stations", .ref t1)])) = H3 at z3
  have g3 : H3 x = some (.ins CW dx [("text", .str text), ("horizon", .int h), ("satellites", .ref t0), ("stations", .ref t1)]) := by rw [← hH3, upd_same]
  refine ⟨_, rfl, l2, x2, rfl, .inl ⟨SqL.of (z3 _ _ n2 a2), fun t2 ht2 => ?_⟩⟩
  have e2 : x ≠ t2 := ne_of_none g3 ht2
  refine ⟨_, rfl, x, CW, dx, _, rfl, (upd_ne e2).trans g3, cl, T.n_World_recordings, (by show 4 < 1000; decide), ?_⟩
  rw [put_miss (by decide +kernel), put_miss (by decide +kernel), put_miss (by decide +kernel), put_miss (by decide +kernel), put_nil]
  have z4 : SameX x H (upd (upd H3 t2 (.tup x2)) x (.ins CW dx [("text", .str text), ("horizon", .int h), ("satellites", .ref t0), ("stations", .ref t1), ("recordings", .ref t2)])) := z3.trans ((SameX.of (same_new ht2 _)).trans SameX.upd)
  generalize hH4 : (upd (upd H3 t2 (.tup x2)) x (.ins CW dx [("text", .str text), ("horizon", .int h), ("satellites", .ref t0), ("stations", .ref t1), ("recordings", .ref t2)])) = H4 at z4
  have g4 : H4 x = some (.ins CW dx [("text", .str text), ("horizon", .int h), ("satellites", .ref t0), ("stations", .ref t1), ("recordings", .ref t2)]) := by rw [← hH4, upd_same]
  refine ⟨_, rfl, l3, x3, rfl, .inl ⟨SqL.of (z4 _ _ n3 a3), fun t3 ht3 => ?_⟩⟩
  have e3 : x ≠ t3 := ne_of_none g4 ht3
  refine ⟨_, rfl, x, CW, dx, _, rfl, (upd_ne e3).trans g4, cl, T.n_World_passes, (by show 5 < 1000; decide), ?_⟩
  rw [put_miss (by decide +kernel), put_miss (by decide +kernel), put_miss (by decide +kernel), put_miss (by decide +kernel), put_miss (by decide +kernel), put_nil]
  exact q _ t0 t1 t2 t3 (z4.trans ((SameX.of (same_new ht3 _)).trans SameX.upd)) upd_same
theorem SAt.okX {m qual : Str} {st : Stmt} {ps N : List Str} {k : Nat} {sp : Sp} (F : SAt K C m qual st ps) (S : FnScope N ps (defScope st)) (len : ∀ vs H Q E, sp vs H Q E → vs.length = ps.length)
    (hbody : ∀ (f : Addr) (cdv : Value) (A : Around) (outer : List Env) (s : Shared) (H : Hp) (vs : List V) (Q : VK) (E : XK), Room k (A.deeper (envOfC qual (defScope st) s.heap.objs.size f cdv)) → sp vs H Q E →
      ∃ t, PSs (cxOf (L2N.CX P w) P w K mg base N qual (defScope st) f cdv A outer s H E) (defBody st) t ∧ t { nx := fun _ H' => Q .non H', rt := Q } (start N vs) H) : SDef P w K mg base (L2N.CX P w) (k + 1) C m ps sp := by
  obtain ⟨f, fd, G, M, b⟩ := F.ex
  exact ⟨f, fd, fun_okN G S len (fun cdv A outer s H vs Q E hr h => hbody f cdv A outer s H vs Q E hr h), M, G.kp, b⟩
def spParseX (K : PySem.W.Frag) (CW CF : Addr) : Sp := fun vs H Q E => ∃ (text : Str) (lns : List (List Str)) (last : Str), vs = [.str text] ∧ Txt.split text nl = lns.map row ++ [last] ∧ (∀ l ∈ lns, LnOk l) ∧ lns.length ≤ 100 ∧ text.length ≤ 1000000 ∧ last.length ≤ 100000 ∧
  (∀ f, rdText lns last = .error f → FltE CF E (Same H) f.1 f.2.1 f.2.2) ∧ (∀ h, rdText lns last = .ok h → ∀ a dx t0 t1 t2 t3 H', H a = none → Same H H' → H' a = some (.ins CW dx (worF text h t0 t1 t2 t3)) → Q (.ref a) H')
theorem d_parseX (T : TxtW K mg CL CS CT CR CP CW aS aR fS fT fR fP) (TF : TfAt K mg CF) (SP : SupP P) (D_lines_of : DefOk P w K mg base (L2N.CX P w) 4 "lines_of" ["text"] (spLinesX CL CF)) (D_Line_read_field : MDef P w K mg base (L2N.CX P w) 6 CL "read_field" ["self", "word", "least", "most"] [] (spFieldX CL CF))
    (D_Line_finish : MDef P w K mg base (L2N.CX P w) 5 CL "finish" ["self"] [] (spFinishX CL CF)) (D_read_things : DefOk P w K mg base (L2N.CX P w) 8 "read_things" ["lines", "horizon"] (spThingsX K CL CF))
    (DI_World : MDef P w K mg base (L2N.CX P w) 1 CW "__init__" ["self", "text", "horizon", "things"] [] (spWInitX K CW)) (A : SAt K CW "parse" "World.parse" s_World_parse ["text"]) : SDef P w K mg base (L2N.CX P w) 9 CW "parse" ["text"] (spParseX K CW CF) := by
  have B := T.L.B
  refine A.okX sc_World_parse (fun vs H Q E h => ?_) (fun f cdv A outer s H vs Q E hr h => ?_)
  · obtain ⟨text, lns, last, rfl, _⟩ := h
    rfl
  obtain ⟨text, lns, last, rfl, hsp, hok, hn, hz, hla, qe, q⟩ := h
  obtain ⟨fI, fd, i1, i2, ox, bd, F1⟩ := d_TF (w := w) (base := base) (CX := CX0) TF SP
  refine ⟨_, pss_cons (ps_set (i := 1) sc_World_parse.nd rfl (Or.inl rfl) (pe_f D_lines_of (hr.mono (by omega)) (passOut rfl rfl rfl rfl) (pa_cons (pv 0) pa_nil)))
  (pss_cons (ps_if (pt_cmpR op_eq (pe_callB (call_len_seq) (by rfl) B.len (by decide +kernel) (pa_cons (pv 1) pa_nil)) pe_int (nomark _))
      (pss_one (L2N.ps_raise rfl (L2N.takes_of rfl rfl rfl rfl) (pmkN_oex ox i1 i2 F1 (hr.mono (by omega)) bd pass0 rfl TF.g (pa_cons pe_int (pa_cons pe_int (pa_cons pe_str pa_nil))))))
      (pss_nil))
  (pss_cons (ps_set (i := 2) sc_World_parse.nd rfl (Or.inl rfl) (pe_m D_Line_read_field T.c_Line.cl (hr.mono (by omega)) (passOut rfl rfl rfl rfl) (pe_ix ix_list (pv 1) pe_int (fun _ _ => rfl)) (pa_cons pe_str (pa_cons pe_int (pa_cons (ClX.pe_cval (pe_ga T.c_World.gC) rfl) pa_nil)))))
  (pss_cons (ps_expr (pe_m0 D_Line_finish T.c_Line.cl (hr.mono (by omega)) (passOut rfl rfl rfl rfl) (pe_ix ix_list (pv 1) pe_int (fun _ _ => rfl))))
  (pss_one (ps_ret (pe_mk DI_World T.c_World (hr.mono (by omega)) (passOut rfl rfl rfl rfl) (pa_cons (pv 0) (pa_cons (pv 2) (pa_cons (pe_f D_read_things (hr.mono (by omega)) (passOut rfl rfl rfl rfl) (pa_cons (pe_slice sl_list (pv 1) (po_some pe_int) po_none) (pa_cons (pv 2) pa_nil))) pa_nil)))))))))
    , ?_⟩
  refine ⟨_, rfl, text, lns, last, rfl, hsp, hok, hn, hz, hla, fun hne => qe ((lns.length : Int) + 1, (last.length : Int) + 1, "newline expected") (by unfold rdText; rw [if_neg hne]), fun hl p as H1 s1 hp hfr hnd hpp hlen hpr => ?_⟩
  have hT0 : rdText lns last = rdWorld lns := by unfold rdText; rw [if_pos hl]
  rw [hT0] at qe q
  cases lns with
  | nil =>
    have has : as = [] := List.eq_nil_of_length_eq_zero hlen
    subst has
    refine ⟨_, rfl, p, _, rfl, .inl (SqL.of hpp), rfl, _, rfl, iteT' (by decide) ?_⟩
    refine ⟨(by show 3 ≤ 1000; decide), fun x hx => ?_⟩
    refine ⟨x, 1, 1, _, rfl, upd_same, by decide, by decide, by decide, by decide, by decide +kernel, fun d hd dne => ?_⟩
    have hdH : H1 d = none := by rw [upd_ne dne] at hd; exact hd
    refine ⟨rfl, d, _, (upd_ne (Ne.symm dne)).trans ((upd_ne (Ne.symm dne)).trans upd_same), upd_same, hdH, qe (_, _, _) rfl d _ (fun b o hb => ?_) upd_same⟩
    have hb1 := s1 _ _ hb
    have b1 : b ≠ x := ne_of_none hb1 hx
    have b2 : b ≠ d := ne_of_none hb1 hdH
    rw [upd_ne b2, del_ne b1, upd_ne b2, upd_ne b2, upd_ne b1, upd_ne b2, upd_ne b1]
    exact hb1
  | cons l rest =>
  obtain ⟨a0, ar, rfl⟩ : ∃ a0 ar, as = a0 :: ar := by
    cases as with
    | nil => simp at hlen
    | cons a0 ar => exact ⟨_, _, rfl⟩
  have L0 := hpr 0 a0 l rfl rfl
  rw [show (1 + ((0 : Nat) : Int)) = 1 by omega] at L0
  have hl0 : a0 ≠ p := by
    obtain ⟨dx, wl, g1, g2⟩ := L0.ex
    exact ne_of g1 hpp (fun z => nomatch z)
  have hW : rdWorld (l :: rest) = (match seq2 (rdField l 0 "horizon" 1 500) fun h => seq2 (rdFinish l 2) fun _ => .ok h with
    | .error e => .error (1, colW l e.1, e.2)
    | .ok h => match rdAll h rest 2 0 [[], [], [], []] with
      | .error f => .error f
      | .ok _ => .ok h) := rfl
  refine ⟨_, rfl, p, _, rfl, .inl (SqL.of hpp), rfl, _, rfl, iteF' (decide_eq_false fun z => by
    have z2 := V.int.inj z
    rw [List.length_map, List.length_cons] at z2
    omega) ?_⟩
  obtain ⟨tk, hv⟩ := T.v_MOST_HORIZON
  have flt : ∀ {H2 : Hp}, SameX a0 H1 H2 → ∀ e, (seq2 (rdField l 0 "horizon" 1 500) fun h => seq2 (rdFinish l 2) fun _ => .ok h) = .error e → FltX CF E a0 H2 1 l e := fun {H2} s2 e he d H3 s3 hd => by
    refine qe (1, colW l e.1, e.2) (by rw [hW, he]) d H3 (fun b o hb => ?_) hd
    have n0 : b ≠ a0 := ne_of_none hb (hfr a0 List.mem_cons_self)
    exact s3 b o n0 (s2 b o n0 (s1 b o hb))
  obtain ⟨_, _, g0, z0⟩ := LnX.no L0 (m := "read_field") (by decide +kernel) (by decide +kernel) (by decide +kernel) (by decide +kernel)
  refine ⟨_, rfl, p, _, _, .ref a0, rfl, rfl, SqL.of hpp, atI_nat (j := 0) rfl, a0, _, _, rfl, g0, z0, CW, _, _, _, rfl, T.rdW, hv, a0, 1, l, 0, _, 1, 500, rfl, L0, fun e he => flt (SameX.of (Same.refl _)) e (seq2_err he), fun h hh H2 s2 L2 => ?_⟩
  have hpp2 := s2 _ _ hl0.symm hpp
  obtain ⟨hlo, hhi⟩ := rdField_hi hh
  obtain ⟨_, _, g1, z1⟩ := LnX.no L2 (m := "finish") (by decide +kernel) (by decide +kernel) (by decide +kernel) (by decide +kernel)
  refine ⟨_, rfl, p, _, _, .ref a0, rfl, rfl, SqL.of hpp2, atI_nat (j := 0) rfl, a0, _, _, rfl, g1, z1, a0, 1, l, 2, rfl, L2, fun e he => flt s2 e ((seq2_ok hh).trans (seq2_err he)), fun hfin => ?_⟩
  have hW2 : rdWorld (l :: rest) = (match rdAll h rest 2 0 [[], [], [], []] with | .error f => .error f | .ok _ => .ok h) := by rw [hW, seq2_ok hh, seq2_ok hfin]
  have sl : cutV ((a0 :: ar).map V.ref) (some 1) none = ar.map V.ref := by
    unfold cutV
    rw [show HT.sIx ((a0 :: ar).map V.ref).length 0 (some 1) = min 1 ((a0 :: ar).map V.ref).length from HT.sIx_nat _ 0 1, HT.sIx_none]
    rw [List.map_cons, List.length_cons, show min 1 ((ar.map V.ref).length + 1) = 1 by omega]
    show List.take ((ar.map V.ref).length + 1 - 1) (ar.map V.ref) = ar.map V.ref
    rw [Nat.add_sub_cancel, List.take_length]
  refine ⟨_, rfl, _, rfl, _, rfl, 1, rfl, p, _, rfl, SqL.of hpp2, fun p2 hp2 => ?_⟩
  rw [sl]
  have nd2 := List.nodup_cons.mp hnd
  rw [List.length_cons, List.length_cons] at hlen
  rw [List.length_cons] at hn
  have all : ∀ {H3 : Hp}, SameA ar (upd H2 p2 (.lst (ar.map V.ref))) H3 → Same H H3 := fun {H3} s3 b o e => by
    have n0 : b ≠ a0 := ne_of_none e (hfr a0 List.mem_cons_self)
    refine s3 b o (fun z => ?_) (same_new hp2 _ b o (s2 b o n0 (s1 b o e)))
    exact ne_of_none e (hfr b (List.mem_cons_of_mem _ z)) rfl
  refine ⟨_, rfl, p2, ar, h, 2, rest, rfl, SqL.of upd_same, nd2.2, hhi, by omega, by omega, fun l' hl' => (hok l' (List.mem_cons_of_mem _ hl')).ne, fun j a l' ha hl' => ?_, fun f hf d H3 s3 hd => ?_, fun hall th ls N H3 s3 hT => ?_⟩
  · have hj := hpr (j + 1) a l' ha hl'
    rw [show (1 + ((j + 1 : Nat) : Int)) = 2 + (j : Int) by omega] at hj
    exact (hj.sx L0 (fun z => nd2.1 (z ▸ List.mem_of_getElem? ha)) s2).same (same_new hp2 _)
  · exact qe f (by rw [hW2, hf]) d H3 (all s3) hd
  refine fun x dx hx hdx ne => ?_
  have sm : Same H3 (upd (upd H3 dx (.own x)) x (.ins CW dx [])) := fun b o e => by
    rw [upd_ne (ne_of_none e hx), upd_ne (ne_of_none e hdx)]
    exact e
  refine ⟨x, dx, text, h, th, ls, N, rfl, upd_same, hT.same sm, fun H4 t0 t1 t2 t3 s4 hx4 => ⟨rfl, ?_⟩⟩
  have a3 := all s3
  refine q h (by rw [hW2, hall]) x dx t0 t1 t2 t3 H4 (a3.free hx) (fun b o e => ?_) hx4
  have e3 := a3 b o e
  exact s4 b o (ne_of_none e3 hx) (sm b o e3)
end
end DP
namespace DP
open PySem PySem.Spec PyProof.Rows L2
structure PF (K : PySem.W.Frag) (mg : Str → Option Value) (CL CS CT CR CP CW : Addr) : Prop where
  p_names_of : At K mg "names_of" s_names_of ["things"]
  p_read_light : At K mg "read_light" s_read_light ["line", "horizon"]
  p_read_satellite : At K mg "read_satellite" s_read_satellite ["line", "horizon", "things"]
  p_read_station : At K mg "read_station" s_read_station ["line", "_", "things"]
  p_read_recording : At K mg "read_recording" s_read_recording ["line", "horizon", "things"]
  p_read_pass : At K mg "read_pass" s_read_pass ["line", "horizon", "things"]
  p_most_things : At K mg "most_things" s_most_things ["sort"]
  p_read_sort : At K mg "read_sort" s_read_sort ["line", "ahead", "things"]
  p_read_things : At K mg "read_things" s_read_things ["lines", "horizon"]
  p_lines_of : At K mg "lines_of" s_lines_of ["text"]
  p_is_name : At K mg "is_name" s_is_name ["word"]
  p_is_number : At K mg "is_number" s_is_number ["word"]
  p_Line___init__ : MAt K CL "__init__" "Line.__init__" s_Line___init__ ["self", "number", "row"]
  p_Line_has_more : MAt K CL "has_more" "Line.has_more" s_Line_has_more ["self"]
  p_Line_due : MAt K CL "due" "Line.due" s_Line_due ["self"]
  p_Line_step : MAt K CL "step" "Line.step" s_Line_step ["self"]
  p_Line_read_choice : MAt K CL "read_choice" "Line.read_choice" s_Line_read_choice ["self", "choices"]
  p_Line_read_number : MAt K CL "read_number" "Line.read_number" s_Line_read_number ["self", "least", "most"]
  p_Line_read_field : MAt K CL "read_field" "Line.read_field" s_Line_read_field ["self", "word", "least", "most"]
  p_Line_due_name : MAt K CL "due_name" "Line.due_name" s_Line_due_name ["self"]
  p_Line_read_new_name : MAt K CL "read_new_name" "Line.read_new_name" s_Line_read_new_name ["self", "used"]
  p_Line_read_known_name : MAtD K CL "read_known_name" "Line.read_known_name" s_Line_read_known_name ["self", "names", "least"] [.int 0]
  p_Line_finish : MAt K CL "finish" "Line.finish" s_Line_finish ["self"]
  p_Satellite___init__ : MAt K CS "__init__" "Satellite.__init__" s_Satellite___init__ ["self", "name", "store", "battery", "start_level", "reserve", "charge", "settle", "light"]
  p_Station___init__ : MAt K CT "__init__" "Station.__init__" s_Station___init__ ["self", "name", "antennas", "turn"]
  p_Recording___init__ : MAt K CR "__init__" "Recording.__init__" s_Recording___init__ ["self", "name", "satellite", "earliest", "latest", "length", "size", "energy", "worth", "rank", "deadline"]
  p_Pass___init__ : MAt K CP "__init__" "Pass.__init__" s_Pass___init__ ["self", "name", "satellite", "station", "span", "room", "energy", "fee"]
  p_World___init__ : MAt K CW "__init__" "World.__init__" s_World___init__ ["self", "text", "horizon", "things"]
  p_World_parse : SAt K CW "parse" "World.parse" s_World_parse ["text"]
theorem hb_names_of : ∀ (kV doc pm : Value) (an : Option Addr) (cdv ct : Value) (us : List Value), us.length = (["things"] : List Str).length → bindArgs (PySem.W.fnOf "names_of" "names_of" (defArgs s_names_of) (defBody s_names_of) (defScope s_names_of) .none kV doc pm an cdv ct) ⟨us, []⟩ = pure ((["things"] : List Str).zip us) :=
  fun _ _ _ _ _ _ us hl => match us, hl with | [_], _ => rfl
theorem hb_read_light : ∀ (kV doc pm : Value) (an : Option Addr) (cdv ct : Value) (us : List Value), us.length = (["line", "horizon"] : List Str).length → bindArgs (PySem.W.fnOf "read_light" "read_light" (defArgs s_read_light) (defBody s_read_light) (defScope s_read_light) .none kV doc pm an cdv ct) ⟨us, []⟩ = pure ((["line", "horizon"] : List Str).zip us) :=
  fun _ _ _ _ _ _ us hl => match us, hl with | [_, _], _ => rfl
theorem hb_read_satellite : ∀ (kV doc pm : Value) (an : Option Addr) (cdv ct : Value) (us : List Value), us.length = (["line", "horizon", "things"] : List Str).length → bindArgs (PySem.W.fnOf "read_satellite" "read_satellite" (defArgs s_read_satellite) (defBody s_read_satellite) (defScope s_read_satellite) .none kV doc pm an cdv ct) ⟨us, []⟩ = pure ((["line", "horizon", "things"] : List Str).zip us) :=
  fun _ _ _ _ _ _ us hl => match us, hl with | [_, _, _], _ => rfl
theorem hb_read_station : ∀ (kV doc pm : Value) (an : Option Addr) (cdv ct : Value) (us : List Value), us.length = (["line", "_", "things"] : List Str).length → bindArgs (PySem.W.fnOf "read_station" "read_station" (defArgs s_read_station) (defBody s_read_station) (defScope s_read_station) .none kV doc pm an cdv ct) ⟨us, []⟩ = pure ((["line", "_", "things"] : List Str).zip us) :=
  fun _ _ _ _ _ _ us hl => match us, hl with | [_, _, _], _ => rfl
theorem hb_read_recording : ∀ (kV doc pm : Value) (an : Option Addr) (cdv ct : Value) (us : List Value), us.length = (["line", "horizon", "things"] : List Str).length → bindArgs (PySem.W.fnOf "read_recording" "read_recording" (defArgs s_read_recording) (defBody s_read_recording) (defScope s_read_recording) .none kV doc pm an cdv ct) ⟨us, []⟩ = pure ((["line", "horizon", "things"] : List Str).zip us) :=
  fun _ _ _ _ _ _ us hl => match us, hl with | [_, _, _], _ => rfl
theorem hb_read_pass : ∀ (kV doc pm : Value) (an : Option Addr) (cdv ct : Value) (us : List Value), us.length = (["line", "horizon", "things"] : List Str).length → bindArgs (PySem.W.fnOf "read_pass" "read_pass" (defArgs s_read_pass) (defBody s_read_pass) (defScope s_read_pass) .none kV doc pm an cdv ct) ⟨us, []⟩ = pure ((["line", "horizon", "things"] : List Str).zip us) :=
  fun _ _ _ _ _ _ us hl => match us, hl with | [_, _, _], _ => rfl
theorem hb_most_things : ∀ (kV doc pm : Value) (an : Option Addr) (cdv ct : Value) (us : List Value), us.length = (["sort"] : List Str).length → bindArgs (PySem.W.fnOf "most_things" "most_things" (defArgs s_most_things) (defBody s_most_things) (defScope s_most_things) .none kV doc pm an cdv ct) ⟨us, []⟩ = pure ((["sort"] : List Str).zip us) :=
  fun _ _ _ _ _ _ us hl => match us, hl with | [_], _ => rfl
theorem hb_read_sort : ∀ (kV doc pm : Value) (an : Option Addr) (cdv ct : Value) (us : List Value), us.length = (["line", "ahead", "things"] : List Str).length → bindArgs (PySem.W.fnOf "read_sort" "read_sort" (defArgs s_read_sort) (defBody s_read_sort) (defScope s_read_sort) .none kV doc pm an cdv ct) ⟨us, []⟩ = pure ((["line", "ahead", "things"] : List Str).zip us) :=
  fun _ _ _ _ _ _ us hl => match us, hl with | [_, _, _], _ => rfl
theorem hb_read_things : ∀ (kV doc pm : Value) (an : Option Addr) (cdv ct : Value) (us : List Value), us.length = (["lines", "horizon"] : List Str).length → bindArgs (PySem.W.fnOf "read_things" "read_things" (defArgs s_read_things) (defBody s_read_things) (defScope s_read_things) .none kV doc pm an cdv ct) ⟨us, []⟩ = pure ((["lines", "horizon"] : List Str).zip us) :=
  fun _ _ _ _ _ _ us hl => match us, hl with | [_, _], _ => rfl
theorem hb_lines_of : ∀ (kV doc pm : Value) (an : Option Addr) (cdv ct : Value) (us : List Value), us.length = (["text"] : List Str).length → bindArgs (PySem.W.fnOf "lines_of" "lines_of" (defArgs s_lines_of) (defBody s_lines_of) (defScope s_lines_of) .none kV doc pm an cdv ct) ⟨us, []⟩ = pure ((["text"] : List Str).zip us) :=
  fun _ _ _ _ _ _ us hl => match us, hl with | [_], _ => rfl
theorem hb_is_name : ∀ (kV doc pm : Value) (an : Option Addr) (cdv ct : Value) (us : List Value), us.length = (["word"] : List Str).length → bindArgs (PySem.W.fnOf "is_name" "is_name" (defArgs s_is_name) (defBody s_is_name) (defScope s_is_name) .none kV doc pm an cdv ct) ⟨us, []⟩ = pure ((["word"] : List Str).zip us) :=
  fun _ _ _ _ _ _ us hl => match us, hl with | [_], _ => rfl
theorem hb_is_number : ∀ (kV doc pm : Value) (an : Option Addr) (cdv ct : Value) (us : List Value), us.length = (["word"] : List Str).length → bindArgs (PySem.W.fnOf "is_number" "is_number" (defArgs s_is_number) (defBody s_is_number) (defScope s_is_number) .none kV doc pm an cdv ct) ⟨us, []⟩ = pure ((["word"] : List Str).zip us) :=
  fun _ _ _ _ _ _ us hl => match us, hl with | [_], _ => rfl
theorem hb_Line___init__ : ∀ (kV doc pm : Value) (an : Option Addr) (cdv ct : Value) (us : List Value), us.length = (["self", "number", "row"] : List Str).length → bindArgs (PySem.W.fnOf "__init__" "Line.__init__" (defArgs s_Line___init__) (defBody s_Line___init__) (defScope s_Line___init__) .none kV doc pm an cdv ct) ⟨us, []⟩ = pure ((["self", "number", "row"] : List Str).zip us) :=
  fun _ _ _ _ _ _ us hl => match us, hl with | [_, _, _], _ => rfl
theorem hb_Line_has_more : ∀ (kV doc pm : Value) (an : Option Addr) (cdv ct : Value) (us : List Value), us.length = (["self"] : List Str).length → bindArgs (PySem.W.fnOf "has_more" "Line.has_more" (defArgs s_Line_has_more) (defBody s_Line_has_more) (defScope s_Line_has_more) .none kV doc pm an cdv ct) ⟨us, []⟩ = pure ((["self"] : List Str).zip us) :=
  fun _ _ _ _ _ _ us hl => match us, hl with | [_], _ => rfl
theorem hb_Line_due : ∀ (kV doc pm : Value) (an : Option Addr) (cdv ct : Value) (us : List Value), us.length = (["self"] : List Str).length → bindArgs (PySem.W.fnOf "due" "Line.due" (defArgs s_Line_due) (defBody s_Line_due) (defScope s_Line_due) .none kV doc pm an cdv ct) ⟨us, []⟩ = pure ((["self"] : List Str).zip us) :=
  fun _ _ _ _ _ _ us hl => match us, hl with | [_], _ => rfl
theorem hb_Line_step : ∀ (kV doc pm : Value) (an : Option Addr) (cdv ct : Value) (us : List Value), us.length = (["self"] : List Str).length → bindArgs (PySem.W.fnOf "step" "Line.step" (defArgs s_Line_step) (defBody s_Line_step) (defScope s_Line_step) .none kV doc pm an cdv ct) ⟨us, []⟩ = pure ((["self"] : List Str).zip us) :=
  fun _ _ _ _ _ _ us hl => match us, hl with | [_], _ => rfl
theorem hb_Line_read_choice : ∀ (kV doc pm : Value) (an : Option Addr) (cdv ct : Value) (us : List Value), us.length = (["self", "choices"] : List Str).length → bindArgs (PySem.W.fnOf "read_choice" "Line.read_choice" (defArgs s_Line_read_choice) (defBody s_Line_read_choice) (defScope s_Line_read_choice) .none kV doc pm an cdv ct) ⟨us, []⟩ = pure ((["self", "choices"] : List Str).zip us) :=
  fun _ _ _ _ _ _ us hl => match us, hl with | [_, _], _ => rfl
theorem hb_Line_read_number : ∀ (kV doc pm : Value) (an : Option Addr) (cdv ct : Value) (us : List Value), us.length = (["self", "least", "most"] : List Str).length → bindArgs (PySem.W.fnOf "read_number" "Line.read_number" (defArgs s_Line_read_number) (defBody s_Line_read_number) (defScope s_Line_read_number) .none kV doc pm an cdv ct) ⟨us, []⟩ = pure ((["self", "least", "most"] : List Str).zip us) :=
  fun _ _ _ _ _ _ us hl => match us, hl with | [_, _, _], _ => rfl
theorem hb_Line_read_field : ∀ (kV doc pm : Value) (an : Option Addr) (cdv ct : Value) (us : List Value), us.length = (["self", "word", "least", "most"] : List Str).length → bindArgs (PySem.W.fnOf "read_field" "Line.read_field" (defArgs s_Line_read_field) (defBody s_Line_read_field) (defScope s_Line_read_field) .none kV doc pm an cdv ct) ⟨us, []⟩ = pure ((["self", "word", "least", "most"] : List Str).zip us) :=
  fun _ _ _ _ _ _ us hl => match us, hl with | [_, _, _, _], _ => rfl
theorem hb_Line_due_name : ∀ (kV doc pm : Value) (an : Option Addr) (cdv ct : Value) (us : List Value), us.length = (["self"] : List Str).length → bindArgs (PySem.W.fnOf "due_name" "Line.due_name" (defArgs s_Line_due_name) (defBody s_Line_due_name) (defScope s_Line_due_name) .none kV doc pm an cdv ct) ⟨us, []⟩ = pure ((["self"] : List Str).zip us) :=
  fun _ _ _ _ _ _ us hl => match us, hl with | [_], _ => rfl
theorem hb_Line_read_new_name : ∀ (kV doc pm : Value) (an : Option Addr) (cdv ct : Value) (us : List Value), us.length = (["self", "used"] : List Str).length → bindArgs (PySem.W.fnOf "read_new_name" "Line.read_new_name" (defArgs s_Line_read_new_name) (defBody s_Line_read_new_name) (defScope s_Line_read_new_name) .none kV doc pm an cdv ct) ⟨us, []⟩ = pure ((["self", "used"] : List Str).zip us) :=
  fun _ _ _ _ _ _ us hl => match us, hl with | [_, _], _ => rfl
theorem hb_Line_read_known_name : ∀ (T : Addr) (kV doc pm : Value) (an : Option Addr) (cdv ct : Value) (us its : List Value), us.length = 2 → its.length = 1 →
    ∃ k, bindArgs (PySem.W.fnOf "read_known_name" "Line.read_known_name" (defArgs s_Line_read_known_name) (defBody s_Line_read_known_name) (defScope s_Line_read_known_name) (.ref T) kV doc pm an cdv ct) ⟨us, []⟩ = seqItems? (.ref T) >>= k ∧ k (some its.toArray) = pure ((["self", "names", "least"] : List Str).zip (us ++ its.drop 0)) :=
  fun _ _ _ _ _ _ _ us its h1 h2 => match us, its, h1, h2 with | [_, _], [_], _, _ => ⟨_, rfl, rfl⟩
theorem hb_Line_finish : ∀ (kV doc pm : Value) (an : Option Addr) (cdv ct : Value) (us : List Value), us.length = (["self"] : List Str).length → bindArgs (PySem.W.fnOf "finish" "Line.finish" (defArgs s_Line_finish) (defBody s_Line_finish) (defScope s_Line_finish) .none kV doc pm an cdv ct) ⟨us, []⟩ = pure ((["self"] : List Str).zip us) :=
  fun _ _ _ _ _ _ us hl => match us, hl with | [_], _ => rfl
theorem hb_Satellite___init__ : ∀ (kV doc pm : Value) (an : Option Addr) (cdv ct : Value) (us : List Value), us.length = (["self", "name", "store", "battery", "start_level", "reserve", "charge", "settle", "light"] : List Str).length → bindArgs (PySem.W.fnOf "__init__" "Satellite.__init__" (defArgs s_Satellite___init__) (defBody s_Satellite___init__) (defScope s_Satellite___init__) .none kV doc pm an cdv ct) ⟨us, []⟩ = pure ((["self", "name", "store", "battery", "start_level", "reserve", "charge", "settle", "light"] : List Str).zip us) :=
  fun _ _ _ _ _ _ us hl => match us, hl with | [_, _, _, _, _, _, _, _, _], _ => rfl
theorem hb_Station___init__ : ∀ (kV doc pm : Value) (an : Option Addr) (cdv ct : Value) (us : List Value), us.length = (["self", "name", "antennas", "turn"] : List Str).length → bindArgs (PySem.W.fnOf "__init__" "Station.__init__" (defArgs s_Station___init__) (defBody s_Station___init__) (defScope s_Station___init__) .none kV doc pm an cdv ct) ⟨us, []⟩ = pure ((["self", "name", "antennas", "turn"] : List Str).zip us) :=
  fun _ _ _ _ _ _ us hl => match us, hl with | [_, _, _, _], _ => rfl
theorem hb_Recording___init__ : ∀ (kV doc pm : Value) (an : Option Addr) (cdv ct : Value) (us : List Value), us.length = (["self", "name", "satellite", "earliest", "latest", "length", "size", "energy", "worth", "rank", "deadline"] : List Str).length → bindArgs (PySem.W.fnOf "__init__" "Recording.__init__" (defArgs s_Recording___init__) (defBody s_Recording___init__) (defScope s_Recording___init__) .none kV doc pm an cdv ct) ⟨us, []⟩ = pure ((["self", "name", "satellite", "earliest", "latest", "length", "size", "energy", "worth", "rank", "deadline"] : List Str).zip us) :=
  fun _ _ _ _ _ _ us hl => match us, hl with | [_, _, _, _, _, _, _, _, _, _, _], _ => rfl
theorem hb_Pass___init__ : ∀ (kV doc pm : Value) (an : Option Addr) (cdv ct : Value) (us : List Value), us.length = (["self", "name", "satellite", "station", "span", "room", "energy", "fee"] : List Str).length → bindArgs (PySem.W.fnOf "__init__" "Pass.__init__" (defArgs s_Pass___init__) (defBody s_Pass___init__) (defScope s_Pass___init__) .none kV doc pm an cdv ct) ⟨us, []⟩ = pure ((["self", "name", "satellite", "station", "span", "room", "energy", "fee"] : List Str).zip us) :=
  fun _ _ _ _ _ _ us hl => match us, hl with | [_, _, _, _, _, _, _, _], _ => rfl
theorem hb_World___init__ : ∀ (kV doc pm : Value) (an : Option Addr) (cdv ct : Value) (us : List Value), us.length = (["self", "text", "horizon", "things"] : List Str).length → bindArgs (PySem.W.fnOf "__init__" "World.__init__" (defArgs s_World___init__) (defBody s_World___init__) (defScope s_World___init__) .none kV doc pm an cdv ct) ⟨us, []⟩ = pure ((["self", "text", "horizon", "things"] : List Str).zip us) :=
  fun _ _ _ _ _ _ us hl => match us, hl with | [_, _, _, _], _ => rfl
theorem hb_World_parse : ∀ (kV doc pm : Value) (an : Option Addr) (cdv ct : Value) (us : List Value), us.length = (["text"] : List Str).length → bindArgs (PySem.W.fnOf "parse" "World.parse" (defArgs s_World_parse) (defBody s_World_parse) (defScope s_World_parse) .none kV doc pm an cdv ct) ⟨us, []⟩ = pure ((["text"] : List Str).zip us) :=
  fun _ _ _ _ _ _ us hl => match us, hl with | [_], _ => rfl
end DP
namespace DP
open PySem PySem.Spec PyProof.Rows L2
section
variable {P : Program} {w : World} {K : PySem.W.Frag} {mg : Str → Option Value} {base : Heap} {CL CS CT CR CP CW aS aR fS fT fR fP CF : Addr}
theorem prog_parseX (T : TxtW K mg CL CS CT CR CP CW aS aR fS fT fR fP) (F : PF K mg CL CS CT CR CP CW) (TF : TfAt K mg CF) (SP : SupP P) (RF : MAt K CL "refuse" "Line.refuse" s_Line_refuse ["self", "reason"]) : SDef P w K mg base (L2N.CX P w) 9 CW "parse" ["text"] (spParseX K CW CF) := by
  have L := T.L
  have B := L.B
  have D_init : MDef P w K mg base CX0 1 CL "__init__" _ [] _ := d_Line_initX L F.p_Line___init__
  have D_more : MDef P w K mg base (L2N.CX P w) 1 CL "has_more" _ [] _ := (d_has_moreX L F.p_Line_has_more).up
  have D_step : MDef P w K mg base (L2N.CX P w) 1 CL "step" _ [] _ := (d_stepX L F.p_Line_step).up
  have D_ref : MDef P w K mg base (L2N.CX P w) 3 CL "refuse" _ [] _ := d_refuse L TF SP RF
  have D_due := d_dueX L D_more D_ref F.p_Line_due
  have D_choice := d_read_choiceX L D_due D_ref D_step F.p_Line_read_choice
  have D_isnum : DefOk P w K mg base (L2N.CX P w) 1 "is_number" _ _ := (d_is_numberX L F.p_is_number).up
  have D_number := d_read_numberX L D_isnum D_due D_ref D_step F.p_Line_read_number
  have D_field := d_read_fieldX L D_choice D_number F.p_Line_read_field
  have D_isname : DefOk P w K mg base (L2N.CX P w) 1 "is_name" _ _ := (d_is_nameX L F.p_is_name).up
  have D_due_name := d_due_nameX L D_isname D_due D_ref F.p_Line_due_name
  have D_new := d_read_new_nameX L D_due_name D_ref D_step F.p_Line_read_new_name
  have D_known := d_read_known_nameX L D_due_name D_ref D_step F.p_Line_read_known_name
  have D_finish := d_finishX L D_more D_due D_ref F.p_Line_finish
  have D_lines : DefOk P w K mg base (L2N.CX P w) 4 "lines_of" _ _ := d_lines_ofX L TF SP D_init F.p_lines_of
  have D_names : DefOk P w K mg base (L2N.CX P w) 1 "names_of" _ _ := (d_names_of B F.p_names_of).up
  have D_light := d_read_lightX T D_more D_number F.p_read_light
  have D1 := d_read_satelliteX T D_names D_new D_field D_choice D_light (dI_Satellite T F.p_Satellite___init__).up F.p_read_satellite
  have D2 := d_read_stationX T D_names D_new D_field (dI_Station T F.p_Station___init__).up F.p_read_station
  have D3 := d_read_recordingX T D_names D_new D_field D_choice D_known (dI_Recording T F.p_Recording___init__).up F.p_read_recording
  have D4 := d_read_passX T D_names D_new D_field D_choice D_known (dI_Pass T F.p_Pass___init__).up F.p_read_pass
  have D_most : DefOk P w K mg base (L2N.CX P w) 1 "most_things" _ _ := (d_most_things T F.p_most_things).up
  have D_sort := d_read_sortX T D_due D_ref D_step D_most F.p_read_sort
  have D_things := d_read_thingsX T D_sort D1 D2 D3 D4
    (at_ne F.p_read_station F.p_read_satellite T.r_station T.r_satellite (by decide)) (at_ne F.p_read_recording F.p_read_satellite T.r_recording T.r_satellite (by decide)) (at_ne F.p_read_recording F.p_read_station T.r_recording T.r_station (by decide))
    (at_ne F.p_read_pass F.p_read_satellite T.r_pass T.r_satellite (by decide)) (at_ne F.p_read_pass F.p_read_station T.r_pass T.r_station (by decide)) (at_ne F.p_read_pass F.p_read_recording T.r_pass T.r_recording (by decide)) D_finish F.p_read_things
  exact d_parseX T TF SP D_lines D_field D_finish D_things (dI_WorldX T F.p_World___init__).up F.p_World_parse
end
end DP
namespace DP
open PySem PySem.Spec PyProof.Rows L2
abbrev s__law_cell : Stmt := topS 41
theorem sc__law_cell : FnScope ["script", "k"] ["script", "k"] (defScope s__law_cell) := ⟨rfl, rfl, rfl, by decide +kernel, rfl, by decide +kernel, by decide +kernel⟩
abbrev s__law_draws : Stmt := topS 42
theorem sc__law_draws : FnScope ["cell", "count", "number", "great", "found", "k", "mixed"] ["cell", "count"] (defScope s__law_draws) := ⟨rfl, rfl, rfl, by decide +kernel, rfl, by decide +kernel, by decide +kernel⟩
abbrev s__law_stream : Stmt := topS 43
theorem sc__law_stream : FnScope ["script", "first", "count", "found", "k"] ["script", "first", "count"] (defScope s__law_stream) := ⟨rfl, rfl, rfl, by decide +kernel, rfl, by decide +kernel, by decide +kernel⟩
abbrev s__law_next : Stmt := topS 44
theorem sc__law_next : FnScope ["stream", "many", "digits", "place", "value"] ["stream", "many"] (defScope s__law_next) := ⟨rfl, rfl, rfl, by decide +kernel, rfl, by decide +kernel, by decide +kernel⟩
section
variable {P : Program} {w : World} {K : PySem.W.Frag} {mg : Str → Option Value} {base : Heap}
/-- some int -/
def spCell (K : PySem.W.Frag) : Sp := fun vs H Q _ => ∃ (a : Addr) (ns : List Int) (k : Int), vs = [.ref a, .int k] ∧ SqL K H a (ns.map V.int) ∧ 0 ≤ k ∧ ∀ v : Int, Q (.int v) H
theorem d_cell (B : Bt mg) (A : At K mg "_law_cell" s__law_cell ["script", "k"]) : DefOk P w K mg base CX0 1 "_law_cell" ["script", "k"] (DP.spCell K) := by
  refine A.ok sc__law_cell (fun vs H Q E h => ?_) (fun f cdv A outer s H vs Q E hr h => ?_)
  · obtain ⟨a, ns, k, rfl, _⟩ := h
    rfl
  obtain ⟨a, ns, k, rfl, hS, h0, q⟩ := h
  refine ⟨_, pss_cons (ps_if (pt_cmpR op_lt (pv 1) (pe_callB (call_len_seq) (by rfl) B.len (by decide +kernel) (pa_cons (pv 0) pa_nil)) (nomark _))
      (pss_one (ps_ret (pe_callTy (call_int1) (by rfl) B.int (by decide +kernel) (pa_cons (pe_ix ix_list (pv 0) (pv 1) (fun _ _ => rfl)) pa_nil))))
      (pss_nil))
  (pss_one (ps_ret pe_int))
    , ?_⟩
  refine ⟨_, rfl, _, rfl, a, _, rfl, .inl hS, _, _, rfl, rfl, _, rfl, ?_⟩
  refine ite2 (fun c => ?_) (fun c => ?_)
  · have c' : k < (((ns.map V.int).length : Nat) : Int) := of_decide_eq_true c
    rw [List.length_map] at c'
    have hk : k.toNat < ns.length := by omega
    have ek : k = ((k.toNat : Nat) : Int) := by omega
    have g : (ns.map V.int)[k.toNat]? = some (.int ns[k.toNat]) := by rw [List.getElem?_map, List.getElem?_eq_getElem hk] <;> rfl
    have g2 : atI (ns.map V.int) k = some (.int ns[k.toNat]) := by
      have := atI_nat g
      rw [← ek] at this
      exact this
    exact ⟨_, rfl, _, rfl, a, _, _, _, rfl, rfl, hS, g2, .inl ⟨_, rfl, q _⟩⟩
  · exact q 0
/-- a new list of twelve ints -/
def spDraws : Sp := fun vs H Q _ => ∃ c : Int, vs = [.int c, .int 12] ∧ ∀ (p : Addr) (ds : List Int) (H' : Hp), Same H H' → H p = none → ds.length = 12 → H' p = some (.lst (ds.map V.int)) → Q (.ref p) H'
theorem d_draws (B : Bt mg) (A : At K mg "_law_draws" s__law_draws ["cell", "count"]) : DefOk P w K mg base CX0 1 "_law_draws" ["cell", "count"] spDraws := by
  refine A.ok sc__law_draws (fun vs H Q E h => ?_) (fun f cdv A outer s H vs Q E hr h => ?_)
  · obtain ⟨c, rfl, _⟩ := h
    rfl
  obtain ⟨c, rfl, q⟩ := h
  refine ⟨_, pss_cons (ps_set (i := 2) sc__law_draws.nd rfl (Or.inl rfl) (pe_callB (call_abs) (by rfl) B.abs (by decide +kernel) (pa_cons (pe_callTy (call_int1) (by rfl) B.int (by decide +kernel) (pa_cons (pv 0) pa_nil)) pa_nil)))
  (pss_cons (ps_set (i := 3) sc__law_draws.nd rfl (Or.inl rfl) (pe_cmpR op_ge (pv 2) (pe_op op_pow pe_int pe_int) (nomark _)))
  (pss_cons (ps_set (i := 4) sc__law_draws.nd rfl (Or.inl rfl) (pe_lst pa_nil))
  (pss_cons (ps_for PassesOwn.never rfl (pi_range1 (by rfl) B.range (pa_cons pe_int pa_nil)) (pg_name (i := 5) sc__law_draws.nd rfl (Or.inl rfl))
      (pss_one (ps_if (PW.pt (pw_and (pt_cmpR op_lt (pv 5) (pv 1) (nomark _)) (pw_and1 (pt_val (pv 3)))))
          (pss_cons (ps_expr (pe_bm PySem.F.plainAttrs_list PySem.F.slot_list_append PySem.F.type_list_append mt_append (pv 4) (pa_cons (pe_op op_mod (pv 2) pe_int) pa_nil)))
          (pss_one (ps_set (i := 2) sc__law_draws.nd rfl (Or.inl rfl) (pe_op op_fdiv (pv 2) pe_int))))
          (pss_one (ps_if (pt_cmpR op_lt (pv 5) (pv 1) (nomark _))
              (pss_cons (ps_set (i := 6) sc__law_draws.nd rfl (Or.inl rfl) (pe_op op_mod (pe_op op_add (pe_op op_add (pe_op op_mul (pe_callTy (call_int1) (by rfl) B.int (by decide +kernel) (pa_cons (pv 2) pa_nil)) pe_int) (pe_op op_mul (pv 5) pe_int)) pe_int) pe_int))
              (pss_cons (ps_set (i := 6) sc__law_draws.nd rfl (Or.inl rfl) (pe_op op_mod (pe_op op_add (pe_op op_add (pe_op op_mul (pe_callTy (call_int1) (by rfl) B.int (by decide +kernel) (pa_cons (pv 6) pa_nil)) (pe_callTy (call_int1) (by rfl) B.int (by decide +kernel) (pa_cons (pv 6) pa_nil))) (pe_op op_mul (pv 5) pe_int)) pe_int) pe_int))
              (pss_one (ps_expr (pe_bm PySem.F.plainAttrs_list PySem.F.slot_list_append PySem.F.type_list_append mt_append (pv 4) (pa_cons (pe_op op_mod (pe_callTy (call_int1) (by rfl) B.int (by decide +kernel) (pa_cons (pv 6) pa_nil)) pe_int) pa_nil))))))
              (pss_nil))))))
  (pss_one (ps_ret (pv 4))))))
    , ?_⟩
  refine ⟨_, rfl, .inl ⟨_, rfl, c, rfl, ?_⟩⟩
  generalize hn0 : (if c < 0 then -c else c) = n0
  have p0 : 0 ≤ n0 := by
    rw [← hn0]
    split <;> omega
  refine ⟨_, rfl, _, _, rfl, rfl, ⟨by decide, by decide, by decide⟩, _, _, rfl, rfl, Nat.zero_le _, fun p hp => ?_⟩
  obtain ⟨g, hg⟩ : ∃ g, decide ((10 : Int) ^ (18 : Int).toNat ≤ n0) = g := ⟨_, rfl⟩
  have hsmall : g = false → n0 < 10 ^ 18 := fun e => by
    rw [e] at hg
    have := of_decide_eq_false hg
    have e2 : (10 : Int) ^ (18 : Int).toNat = 10 ^ 18 := rfl
    rw [e2] at this
    omega
  refine ⟨60, rfl, by decide, by decide, for_range (n := 60) (fun i σ H' => ∃ (num : Int) (ds : List Int) (y5 y6 : Option V), σ = [some (.int c), some (.int 12), some (.int num), some (.bl g), some (.ref p), y5, y6] ∧ 0 ≤ num ∧ (g = false → num < 10 ^ 18) ∧
    ds.length = min i 12 ∧ H' p = some (.lst (ds.map V.int)) ∧ Same H H') ⟨n0, [], none, none, by rw [← hg]; rfl, p0, hsmall, rfl, upd_same, same_new hp _⟩ (fun i σ H1 hi hI => ?_) (fun σ H1 hI => ?_)⟩
  · obtain ⟨num, ds, y5, y6, rfl, pn, sn, hl, hpp, hs⟩ := hI
    have room : (ds.map V.int).length < sizeLine := by
      rw [List.length_map, hl]
      exact small1000 (by omega)
    have grow : ∀ v : Int, i < 12 → (ds ++ [v]).length = min (i + 1) 12 := fun v h => by
      rw [List.length_append, hl, List.length_singleton]
      omega
    have put : ∀ v : Int, (upd H1 p (.lst (ds.map V.int ++ [.int v]))) p = some (.lst ((ds ++ [v]).map V.int)) := fun v => by
      rw [upd_same, List.map_append] <;> rfl
    refine ⟨_, rfl, _, rfl, _, _, rfl, rfl, _, rfl, ?_⟩
    refine ite2 (fun c1 => ?_) (fun c1 => ?_)
    · have c1' : (0 : Int) + (i : Nat) < 12 := of_decide_eq_true c1
      refine ⟨_, rfl, g, rfl, ?_⟩
      cases g with
      | true =>
        refine iteT ?_
        refine ⟨_, rfl, .inl ⟨rfl, _, SqL.of hpp⟩, _, rfl, _, _, rfl, rfl, (by show (0 : Int) < 60; decide), _, _, _, rfl, rfl, hpp, room, ?_⟩
        refine ⟨_, rfl, _, _, rfl, rfl, ⟨by decide, by decide⟩, ?_⟩
        exact ⟨num / 60, ds ++ [num % 60], _, _, rfl, Int.ediv_nonneg pn (by decide), fun z => Bool.noConfusion z, grow _ (by omega), put _, same_at hp hs _⟩
      | false =>
        have sn' := sn rfl
        refine iteF ?_
        refine ⟨_, rfl, _, rfl, _, _, rfl, rfl, _, rfl, iteT' (decide_eq_true c1') ?_⟩
        refine ⟨_, rfl, .inl ⟨_, rfl, _, _, rfl, rfl, .inr ⟨by decide, by decide⟩, _, rfl, _, _, rfl, rfl, .inr ⟨by decide, by decide⟩, _, _, rfl, rfl, _, _, rfl, rfl, _, _, rfl, rfl, (by show (0 : Int) < 2147483647; decide), ?_⟩⟩
        generalize hm : ((num * 48271 + (0 + (i : Nat)) * 69621 + 11) % 2147483647 : Int) = m1
        have b1 : 0 ≤ m1 := by rw [← hm]; exact Int.emod_nonneg _ (by decide)
        have b2 : m1 < 2147483647 := by rw [← hm]; exact Int.emod_lt_of_pos _ (by decide)
        refine ⟨_, rfl, .inl ⟨_, rfl, _, rfl, .inl ⟨_, rfl, _, _, rfl, rfl, .inl ⟨by omega, by omega⟩, _, rfl, _, _, rfl, rfl, .inr ⟨by decide, by decide⟩, _, _, rfl, rfl, _, _, rfl, rfl, _, _, rfl, rfl, (by show (0 : Int) < 998244353; decide), ?_⟩⟩⟩
        refine ⟨_, rfl, .inl ⟨rfl, _, SqL.of hpp⟩, _, rfl, .inl ⟨_, rfl, _, _, rfl, rfl, (by show (0 : Int) < 60; decide), _, _, _, rfl, rfl, hpp, room, ?_⟩⟩
        exact ⟨num, _, _, _, rfl, pn, sn, grow _ (by omega), put _, same_at hp hs _⟩
    · have c1' : ¬ (0 : Int) + (i : Nat) < 12 := fun z => c1 (decide_eq_true z)
      refine ⟨_, rfl, _, rfl, _, _, rfl, rfl, _, rfl, iteF' (decide_eq_false c1') ?_⟩
      exact ⟨num, ds, _, _, rfl, pn, sn, by rw [hl]; omega, hpp, hs⟩
  · obtain ⟨num, ds, y5, y6, rfl, pn, sn, hl, hpp, hs⟩ := hI
    exact ⟨_, rfl, q p ds H1 hs hp hl hpp⟩
theorem mod_place' {i : Int} {n : Nat} (h : 0 < n) : (i % (n : Int)).toNat < n ∧ (((i % (n : Int)).toNat : Nat) : Int) = i % (n : Int) := by
  have h1 : 0 ≤ i % (n : Int) := Int.emod_nonneg i (by omega)
  have h2 : i % (n : Int) < (n : Int) := Int.emod_lt_of_pos i (by omega)
  have h3 : (((i % (n : Int)).toNat : Nat) : Int) = i % (n : Int) := Int.toNat_of_nonneg h1
  refine ⟨?_, h3⟩
  omega
/-- a stream: its digits, its place -/
def Strm (H : Hp) (st : Addr) : Prop := ∃ (d p : Addr) (ds : List Int), H st = some (.lst [.ref d, .ref p]) ∧ H d = some (.lst (ds.map V.int)) ∧ 0 < ds.length ∧ H p = some (plO p)
theorem Strm.same {H H' : Hp} {st : Addr} (h : Strm H st) (s : Same H H') : Strm H' st := by
  obtain ⟨d, p, ds, h1, h2, h3, h4⟩ := h
  exact ⟨d, p, ds, s _ _ h1, s _ _ h2, h3, s _ _ h4⟩
def spStream0 (K : PySem.W.Frag) : Sp := fun vs H Q _ => ∃ (a : Addr) (ns : List Int) (first count : Int), vs = [.ref a, .int first, .int count] ∧ SqL K H a (ns.map V.int) ∧ 0 ≤ first ∧ 0 < count ∧ count ≤ 60 ∧
  ∀ (st d p : Addr) (ds : List Int) (H' : Hp), Same H H' → H st = none → H d = none → H p = none → st ≠ p → d ≠ p → H' st = some (.lst [.ref d, .ref p]) → H' d = some (.lst (ds.map V.int)) → 0 < ds.length → H' p = some (.lst [.int 0]) → Q (.ref st) H'
theorem d_stream0 (B : Bt mg) (D_law_cell : DefOk P w K mg base CX0 1 "_law_cell" ["script", "k"] (DP.spCell K)) (D_law_draws : DefOk P w K mg base CX0 1 "_law_draws" ["cell", "count"] spDraws)
    (A : At K mg "_law_stream" s__law_stream ["script", "first", "count"]) : DefOk P w K mg base CX0 2 "_law_stream" ["script", "first", "count"] (spStream0 K) := by
  refine A.ok sc__law_stream (fun vs H Q E h => ?_) (fun f cdv A outer s H vs Q E hr h => ?_)
  · obtain ⟨a, ns, first, count, rfl, _⟩ := h
    rfl
  obtain ⟨a, ns, first, count, rfl, hS, h0, h1, h2, q⟩ := h
  refine ⟨_, pss_cons (ps_set (i := 3) sc__law_stream.nd rfl (Or.inl rfl) (pe_lst pa_nil))
  (pss_cons (ps_for PassesOwn.never rfl (pi_range1 (by rfl) B.range (pa_cons (pv 2) pa_nil)) (pg_name (i := 4) sc__law_stream.nd rfl (Or.inl rfl))
      (pss_one (ps_expr (pe_bm PySem.F.plainAttrs_list PySem.F.slot_list_extend PySem.F.type_list_extend mt_extend (pv 3) (pa_cons (pe_f D_law_draws (hr.mono (by omega)) pass0 (pa_cons (pe_f D_law_cell (hr.mono (by omega)) pass0 (pa_cons (pv 0) (pa_cons (pe_op op_add (pv 1) (pv 4)) pa_nil))) (pa_cons pe_int pa_nil))) pa_nil)))))
  (pss_one (ps_ret (pe_lst (pa_cons (pv 3) (pa_cons (pe_lst (pa_cons pe_int pa_nil)) pa_nil))))))
    , ?_⟩
  refine ⟨Nat.zero_le _, fun p hp => ?_⟩
  refine ⟨_, rfl, count, rfl, by omega, by omega, for_range (n := count.toNat) (fun i σ H' => ∃ (ds : List Int) (y4 : Option V), σ = [some (.ref a), some (.int first), some (.int count), some (.ref p), y4] ∧ ds.length = 12 * i ∧ H' p = some (.lst (ds.map V.int)) ∧ Same H H')
    ⟨[], none, rfl, rfl, upd_same, same_new hp _⟩ (fun i σ H1 hi hI => ?_) (fun σ H1 hI => ?_)⟩
  · obtain ⟨ds, y4, rfl, hl, hpp, hs⟩ := hI
    refine ⟨_, rfl, .inl ⟨rfl, _, SqL.of hpp⟩, _, rfl, _, rfl, _, rfl, _, _, rfl, rfl, a, ns, first + (0 + (i : Int)), rfl, hs.seq hS, by omega, fun v => ?_⟩
    refine ⟨v, rfl, fun b es H2 s2 nb hl2 hb => ?_⟩
    refine ⟨p, b, _, _, rfl, rfl, s2 _ _ hpp, hb, ?_, ?_⟩
    · rw [List.length_map, List.length_map, hl, hl2]
      exact small (by omega)
    · refine ⟨ds ++ es, _, rfl, by rw [List.length_append, hl, hl2]; omega, by rw [upd_same, List.map_append], same_at hp (hs.trans s2) _⟩
  · obtain ⟨ds, y4, rfl, hl, hpp, hs⟩ := hI
    refine ⟨_, rfl, Nat.le_trans (by decide : 1 ≤ 1000) (Nat.le_of_lt (small1000 (Nat.le_refl _))), fun pl npl => ?_⟩
    have e1 : p ≠ pl := ne_of_none hpp npl
    refine ⟨Nat.le_trans (by decide : 2 ≤ 1000) (Nat.le_of_lt (small1000 (Nat.le_refl _))), fun st nst => ?_⟩
    have nst0 := nst
    have e2 : pl ≠ st := fun z => by
      rw [← z, upd_same] at nst
      cases nst
    rw [upd_ne e2.symm] at nst
    have e3 : p ≠ st := ne_of_none hpp nst
    refine q st p pl ds _ (same_at (hs.free nst) (same_at (hs.free npl) hs _) _) (hs.free nst) hp (hs.free npl) e2.symm e1 upd_same ?_ (by rw [hl]; omega) ?_
    · rw [upd_ne e3, upd_ne e1]
      exact hpp
    · rw [upd_ne e2, upd_same]
def spStream (K : PySem.W.Frag) : Sp := fun vs H Q _ => ∃ (a : Addr) (ns : List Int) (first count : Int), vs = [.ref a, .int first, .int count] ∧ SqL K H a (ns.map V.int) ∧ 0 ≤ first ∧ 0 < count ∧ count ≤ 60 ∧
  ∀ (st : Addr) (H' : Hp), Same H H' → H st = none → Strm H' st → Q (.ref st) H'
theorem d_stream (D : DefOk P w K mg base CX0 2 "_law_stream" ["script", "first", "count"] (spStream0 K)) : DefOk P w K mg base CX0 2 "_law_stream" ["script", "first", "count"] (spStream K) := by
  refine D.hide_out (fun vs H Q E h => ?_) (fun vs H Q E h => ?_)
  · obtain ⟨a, ns, first, count, rfl, _⟩ := h
    rfl
  obtain ⟨a, ns, first, count, rfl, hS, h0, h1, h2, q⟩ := h
  refine ⟨a, ns, first, count, rfl, hS, h0, h1, h2, fun st d p ds H' s nst nd np e1 e2 g1 g2 g3 g4 => ⟨p, 0, np, g4, q st _ (same_at np s _) nst ⟨d, p, ds, ?_, ?_, g3, upd_same⟩⟩⟩
  · rw [upd_ne e1]; exact g1
  · rw [upd_ne e2]; exact g2
def spNext0 : Sp := fun vs H Q _ => ∃ (st d p : Addr) (ds : List Int) (n many : Int), vs = [.ref st, .int many] ∧ 0 < many ∧ H st = some (.lst [.ref d, .ref p]) ∧ H d = some (.lst (ds.map V.int)) ∧ 0 < ds.length ∧ H p = some (.lst [.int n]) ∧
  ∀ v m : Int, 0 ≤ v → v < many → Q (.int v) (upd H p (.lst [.int m]))
theorem d_next0 (B : Bt mg) (A : At K mg "_law_next" s__law_next ["stream", "many"]) : DefOk P w K mg base CX0 1 "_law_next" ["stream", "many"] spNext0 := by
  refine A.ok sc__law_next (fun vs H Q E h => ?_) (fun f cdv A outer s H vs Q E hr h => ?_)
  · obtain ⟨a, d, p, ds, n, many, rfl, _⟩ := h
    rfl
  obtain ⟨st, d, p, ds, n, many, rfl, hm, h1, h2, h3, h4, q⟩ := h
  refine ⟨_, pss_cons (ps_set (i := 2) sc__law_next.nd rfl (Or.inl rfl) (pe_ix ix_list (pv 0) pe_int (fun _ _ => rfl)))
  (pss_cons (ps_set (i := 3) sc__law_next.nd rfl (Or.inl rfl) (pe_ix ix_list (pv 0) pe_int (fun _ _ => rfl)))
  (pss_cons (ps_set (i := 4) sc__law_next.nd rfl (Or.inl rfl) (pe_op op_mod (pe_callTy (call_int1) (by rfl) B.int (by decide +kernel) (pa_cons (pe_ix ix_list (pv 2) (pe_op op_mod (pe_callTy (call_int1) (by rfl) B.int (by decide +kernel) (pa_cons (pe_ix ix_list (pv 3) pe_int (fun _ _ => rfl)) pa_nil)) (pe_callB (call_len_seq) (by rfl) B.len (by decide +kernel) (pa_cons (pv 2) pa_nil))) (fun _ _ => rfl)) pa_nil)) (pv 1)))
  (pss_cons (ps_asg (pe_op op_add (pe_ix ix_list (pv 3) pe_int (fun _ _ => rfl)) pe_int) (pg_sub (pv 3) pe_int set_list))
  (pss_one (ps_ret (pv 4))))))
    , ?_⟩
  refine ⟨_, rfl, st, _, 0, .ref d, rfl, rfl, SqL.of h1, rfl, ?_⟩
  refine ⟨_, rfl, st, _, 1, .ref p, rfl, rfl, SqL.of h1, rfl, ?_⟩
  have hp := (mod_place' (i := n) h3)
  have g2 : atI (ds.map V.int) (n % (((ds.map V.int).length : Nat) : Int)) = some (.int ds[(n % (ds.length : Int)).toNat]) := by
    have g : (ds.map V.int)[(n % (ds.length : Int)).toNat]? = some (.int ds[(n % (ds.length : Int)).toNat]) := by rw [List.getElem?_map, List.getElem?_eq_getElem hp.1] <;> rfl
    have g3 := atI_nat g
    rw [hp.2] at g3
    rw [List.length_map]
    exact g3
  refine ⟨_, rfl, _, rfl, p, _, 0, .int n, rfl, rfl, SqL.of h4, rfl, .inl ⟨_, rfl, _, rfl, d, _, rfl, .inl (SqL.of h2), _, _, rfl, rfl, (by rw [List.length_map]; omega), ?_⟩⟩
  refine ⟨d, _, _, _, rfl, rfl, SqL.of h2, g2, .inl ⟨_, rfl, _, rfl, _, _, rfl, rfl, hm, ?_⟩⟩
  refine ⟨_, rfl, p, _, 0, .int n, rfl, rfl, SqL.of h4, rfl, _, _, rfl, rfl, _, rfl, p, _, 0, 0, rfl, rfl, h4, rfl, ?_⟩
  exact ⟨_, rfl, q _ _ (Int.emod_nonneg _ (by omega)) (Int.emod_lt_of_pos _ hm)⟩
/-- some int below many; nothing is seen to change -/
def spNext : Sp := fun vs H Q _ => ∃ (st : Addr) (many : Int), vs = [.ref st, .int many] ∧ 0 < many ∧ Strm H st ∧ ∀ v : Int, 0 ≤ v → v < many → Q (.int v) H
theorem d_next (D : DefOk P w K mg base CX0 1 "_law_next" ["stream", "many"] spNext0) : DefOk P w K mg base CX0 1 "_law_next" ["stream", "many"] spNext := by
  refine D.hide_in (fun vs H Q E h => ?_) (fun vs H Q E h => ?_)
  · obtain ⟨st, many, rfl, _⟩ := h
    rfl
  obtain ⟨st, many, rfl, hm, ⟨d, p, ds, h1, h2, h3, h4⟩, q⟩ := h
  have e1 : st ≠ p := ne_of h1 h4 (fun z => nomatch z)
  have e2 : d ≠ p := ne_of h2 h4 (fun z => nomatch z)
  exact ⟨p, h4, fun n => ⟨st, d, p, ds, n, many, rfl, hm, by rw [upd_ne e1]; exact h1, by rw [upd_ne e2]; exact h2, h3, upd_same, fun v m v0 v1 => ⟨⟨m, upd_upd⟩, q v v0 v1⟩⟩⟩
end
end DP
namespace DP
open PySem PySem.Spec PyProof.Rows L2
abbrev s__law_word : Stmt := topS 45
theorem sc__law_word : FnScope ["stream", "index", "letters", "size", "text", "place", "word", "k"] ["stream", "index"] (defScope s__law_word) := ⟨rfl, rfl, rfl, by decide +kernel, rfl, by decide +kernel, by decide +kernel⟩
def lo36 : Str := "abcdefghijklmnopqrstuvwxyz0123456789"
def isLo (c : Nat) : Bool := (decide (97 ≤ c) && decide (c ≤ 122)) || isD c
def isUp (c : Nat) : Bool := decide (65 ≤ c) && decide (c ≤ 90)
theorem isLo_notUp {c : Nat} (h : isLo c = true) : isUp c = false := by
  unfold isLo isD at h
  unfold isUp
  simp only [Bool.or_eq_true, Bool.and_eq_true, decide_eq_true_eq] at h
  simp only [Bool.and_eq_false_iff, decide_eq_false_iff_not]
  omega
theorem isLo_sign {c : Nat} (h : isLo c = true) : (isL c || isD c) = true := by
  unfold isLo at h
  unfold isL
  simp only [Bool.or_eq_true, Bool.and_eq_true, decide_eq_true_eq] at h ⊢
  rcases h with h | h
  · exact .inl (.inr h)
  · exact .inr h
/-- the word of the i-th thing: its one capital tells i -/
structure WordAt (i : Nat) (u : Str) : Prop where
  ok : NameOk u
  cap : (tl u).filter isUp = [65 + i]
theorem WordAt.inj {i j : Nat} {u : Str} (h : WordAt i u) (k : WordAt j u) : i = j := by
  have e := h.cap.symm.trans k.cap
  have := (List.cons.inj e).1
  omega
theorem cutS_mem {z : Str} {a b : Option Int} {c : Nat} (h : c ∈ tl (cutS z a b)) : c ∈ tl z := List.mem_of_mem_drop (List.mem_of_mem_take h)
theorem filter_none {l : List Nat} (h : ∀ c ∈ l, isLo c = true) : l.filter isUp = [] := List.filter_eq_nil_iff.mpr fun c hc => by rw [isLo_notUp (h c hc)]; exact Bool.false_ne_true
theorem lo36_at {v : Int} (h0 : 0 ≤ v) (h1 : v < 36) : ∃ c, atI lo36.cps.toList v = some c ∧ isLo c = true := by
  have all : ∀ j, j < 36 → ∃ c, lo36.cps.toList[j]? = some c ∧ isLo c = true := by
    intro j hj
    have hl : lo36.cps.toList.length = 36 := by decide +kernel
    refine ⟨lo36.cps.toList[j]'(by omega), List.getElem?_eq_getElem _, ?_⟩
    have al : ∀ c ∈ lo36.cps.toList, isLo c = true := by decide +kernel
    exact al _ (List.getElem_mem _)
  obtain ⟨c, h2, h3⟩ := all v.toNat (by omega)
  refine ⟨c, ?_, h3⟩
  have := atI_nat h2
  rw [show ((v.toNat : Nat) : Int) = v by omega] at this
  exact this
theorem cap_at {i : Nat} (h : i < 10) : atI ("ABCDEFGHIJ" : Str).cps.toList (i : Int) = some (65 + i) := by
  have all : ∀ j, j < 10 → ("ABCDEFGHIJ" : Str).cps.toList[j]? = some (65 + j) := by decide +kernel
  exact atI_nat (all i h)
theorem tl_str1 {c : Nat} : tl (⟨#[c]⟩ : Str) = [c] := rfl
theorem tl_app (x y : Str) : tl (x ++ y) = tl x ++ tl y := TL.tl_append x y
theorem join_ones : ∀ cs : List Nat, tl (Txt.join (Str.ofString "") (cs.map fun c => (⟨#[c]⟩ : Str))) = cs := fun cs => by
  rw [TL.join_eq]
  show TL.tl (Str.join (Str.ofString "") (cs.map fun c => (⟨#[c]⟩ : Str))) = cs
  rw [TL.tl_join, List.map_map]
  have e : TL.tl (Str.ofString "") = [] := by decide +kernel
  rw [e]
  induction cs with
  | nil => rfl
  | cons a r ih =>
    cases r with
    | nil => rfl
    | cons b t =>
      show [a] ++ ([] ++ TL.joinL [] ((b :: t).map _)) = a :: b :: t
      rw [List.nil_append, ih]
      rfl
/-- the word's parts put together -/
theorem word_ok {i : Nat} {pre suf : Str} {z : Str} (hi : i < 10) (hp : ∀ c ∈ tl pre, isLo c = true) (hs : ∀ c ∈ tl suf, isLo c = true) (lp : (tl pre).length ≤ 4) (ls : (tl suf).length ≤ 4) (hz : tl z = tl pre ++ (65 + i) :: tl suf) :
    (∃ c r, tl z = c :: r ∧ (isD c = true ∨ isL c = true)) ∧ (∀ c r, tl z = c :: r → isD c = true → WordAt i ((Str.ofString "v" : Str) ++ z)) ∧ (∀ c r, tl z = c :: r → isD c = false → WordAt i z) := by
  have sg : ∀ c ∈ tl z, (isL c || isD c) = true := fun c hc => by
    rw [hz] at hc
    rcases List.mem_append.mp hc with hc | hc
    · exact isLo_sign (hp c hc)
    · rcases List.mem_cons.mp hc with rfl | hc
      · unfold isL
        simp only [Bool.or_eq_true, Bool.and_eq_true, decide_eq_true_eq]
        omega
      · exact isLo_sign (hs c hc)
  have cp : (tl z).filter isUp = [65 + i] := by
    rw [hz, List.filter_append, filter_none hp, List.nil_append, List.filter_cons, filter_none hs, if_pos]
    unfold isUp
    simp only [Bool.and_eq_true, decide_eq_true_eq]
    omega
  have ln : (tl z).length ≤ 9 := by
    rw [hz, List.length_append, List.length_cons]
    omega
  have ev : tl (Str.ofString "v") = [118] := by decide +kernel
  refine ⟨?_, fun c r e hd => ⟨⟨118, c :: r, by rw [tl_app, ev, e]; rfl, by decide, fun x hx => sg x (by rw [e]; exact hx), by rw [← e]; omega⟩, ?_⟩, fun c r e hd => ⟨⟨c, r, e, ?_, fun x hx => sg x (by rw [e]; exact List.mem_cons_of_mem _ hx), ?_⟩, cp⟩⟩
  · cases q : tl z with
    | nil =>
      rw [hz] at q
      exact absurd q (by simp)
    | cons c r =>
      refine ⟨c, r, rfl, ?_⟩
      have := sg c (by rw [q]; exact List.mem_cons_self)
      rcases Bool.or_eq_true _ _ ▸ this with h | h
      · exact .inr h
      · exact .inl h
  · rw [tl_app, ev, List.filter_append, cp]
    rfl
  · have := sg c (by rw [e]; exact List.mem_cons_self)
    rw [hd, Bool.or_false] at this
    exact this
  · have := congrArg List.length e
    rw [List.length_cons] at this
    omega
section
variable {P : Program} {w : World} {K : PySem.W.Frag} {mg : Str → Option Value} {base : Heap}
def spWord : Sp := fun vs H Q _ => ∃ (st : Addr) (i : Nat), vs = [.ref st, .int (i : Int)] ∧ i < 10 ∧ Strm H st ∧ ∀ u H', Same H H' → WordAt i u → Q (.str u) H'
theorem d_word (B : Bt mg) (D_law_next : DefOk P w K mg base CX0 1 "_law_next" ["stream", "many"] spNext) (A : At K mg "_law_word" s__law_word ["stream", "index"]) : DefOk P w K mg base CX0 2 "_law_word" ["stream", "index"] spWord := by
  refine A.ok sc__law_word (fun vs H Q E h => ?_) (fun f cdv A outer s H vs Q E hr h => ?_)
  · obtain ⟨st, i, rfl, _⟩ := h
    rfl
  obtain ⟨st, i, rfl, hi, hst, q⟩ := h
  refine ⟨_, pss_cons (ps_set (i := 2) sc__law_word.nd rfl (Or.inr rfl) pe_str)
  (pss_cons (ps_set (i := 3) sc__law_word.nd rfl (Or.inl rfl) (pe_f D_law_next (hr.mono (by omega)) pass0 (pa_cons (pv 0) (pa_cons pe_int pa_nil))))
  (pss_cons (ps_set (i := 4) sc__law_word.nd rfl (Or.inl rfl) (pe_join pe_str (pe_lc (own := [("k", 7)])  rfl sc__law_word.nd (pi_range1 (by rfl) B.range (pa_cons (pv 3) pa_nil)) (blkOk_by (own := [("k", 7)]) (N := ["stream", "index", "letters", "size", "text", "place", "word", "k"]) (sc := defScope s__law_word) (by decide +kernel)) (fun _ _ _ _ _ => pg_name (i := 7) sc__law_word.nd rfl (Or.inl rfl)) (fun _ _ _ _ _ => pts_nil) (fun _ _ _ _ _ => (pe_ix ix_str (pv 2) (pe_f D_law_next (hr.mono (by omega)) pass0 (pa_cons (pv 0) (pa_cons pe_int pa_nil))) (fun _ _ => rfl))))))
  (pss_cons (ps_set (i := 5) sc__law_word.nd rfl (Or.inl rfl) (pe_f D_law_next (hr.mono (by omega)) pass0 (pa_cons (pv 0) (pa_cons (pe_op op_add (pv 3) pe_int) pa_nil))))
  (pss_cons (ps_set (i := 6) sc__law_word.nd rfl (Or.inl rfl) (pe_op op_add_str (pe_op op_add_str (pe_slice sl_str (pv 4) po_none (po_some (pv 5))) (pe_ix ix_str pe_str (pv 1) (fun _ _ => rfl))) (pe_slice sl_str (pv 4) (po_some (pv 5)) po_none)))
  (pss_cons (ps_if (pt_cmpR op_in_sign (pe_ix ix_str (pv 6) pe_int (fun _ _ => rfl)) (pe_slice sl_str (pv 2) (po_some pe_int) po_none) (by rfl))
      (pss_one (ps_set (i := 6) sc__law_word.nd rfl (Or.inl rfl) (pe_op op_add_str pe_str (pv 6))))
      (pss_nil))
  (pss_one (ps_ret (pv 6))))))))
    , ?_⟩
  refine ⟨_, rfl, st, 5, rfl, by decide, hst, fun sz s0 s1 => ?_⟩
  refine ⟨⟨_, rfl⟩, _, rfl, sz, rfl, by omega, by omega, fun D hD => ?_⟩
  refine lc_range (lo := 0) (n := sz.toNat) (fun k H' => ∃ cs : List Nat, cs.length = k ∧ (∀ c ∈ cs, isLo c = true) ∧ H' D = some (.lst ((cs.map fun c => (⟨#[c]⟩ : Str)).map V.str)) ∧ Same H H') ⟨[], rfl, fun _ z => absurd z List.not_mem_nil, upd_same, same_new hD _⟩ (fun k H1 hk hI => ?_) (fun H1 hI => ?_)
  · obtain ⟨cs, hc, hlo, hDD, hs⟩ := hI
    refine ⟨rfl, _, rfl, _, rfl, st, 36, rfl, by decide, hst.same hs, fun v v0 v1 => ?_⟩
    obtain ⟨c, hc1, hc2⟩ := lo36_at v0 v1
    refine ⟨_, _, c, rfl, rfl, by decide +kernel, hc1, _, hDD, by rw [List.length_map, List.length_map, hc]; exact small1000 (by omega), cs ++ [c], by rw [List.length_append, hc, List.length_singleton], ?_, by rw [upd_same, List.map_append, List.map_append]; rfl, same_at hD hs _⟩
    intro x hx
    rcases List.mem_append.mp hx with hx | hx
    · exact hlo x hx
    · rw [List.mem_singleton.mp hx]; exact hc2
  · obtain ⟨cs, hc, hlo, hDD, hs⟩ := hI
    have hl4 : cs.length ≤ 4 := by omega
    refine ⟨Str.ofString "", D, cs.map fun c => (⟨#[c]⟩ : Str), rfl, rfl, .inl (SqL.of hDD), ?_, ?_⟩
    · have e : ((cs.map fun c => (⟨#[c]⟩ : Str)).map (·.length)).sum = cs.length := by
        rw [List.map_map]
        clear hDD hc hl4 hlo
        induction cs with
        | nil => rfl
        | cons a r ih =>
          rw [List.map_cons, List.sum_cons, ih, List.length_cons]
          show 1 + r.length = _
          omega
      have e2 : (Str.ofString "" : Str).length = 0 := by decide +kernel
      rw [e, e2, Nat.mul_zero]
      omega
    obtain ⟨tx, htx⟩ : ∃ tx, Txt.join (Str.ofString "") (cs.map fun c => (⟨#[c]⟩ : Str)) = tx := ⟨_, rfl⟩
    have etx : tl tx = cs := by rw [← htx]; exact join_ones cs
    rw [htx]
    have hst1 := hst.same hs
    have ltx : tx.length ≤ 4 := by
      rw [TL.len_tl, show TL.tl tx = tl tx from rfl, etx]
      exact hl4
    refine ⟨_, rfl, _, rfl, _, _, rfl, rfl, st, sz + 1, rfl, by omega, hst1, fun pl p0 p1 => ?_⟩
    have lpre := cutS_length tx none (some pl)
    have lsuf := cutS_length tx (some pl) none
    have lcap : (⟨#[65 + i]⟩ : Str).length = 1 := rfl
    have lapp : (cutS tx none (some pl) ++ (⟨#[65 + i]⟩ : Str)).length = (cutS tx none (some pl)).length + 1 := by
      rw [TL.len_tl, TL.tl_append, List.length_append, ← TL.len_tl, ← TL.len_tl, lcap]
    refine ⟨_, rfl, _, rfl, pl, rfl, tx, rfl, Nat.le_trans ltx (by decide), _, rfl, _, _, 65 + i, rfl, rfl, by decide +kernel, cap_at hi, _, _, rfl, rfl, ?_, ?_⟩
    · rw [lcap]; exact Nat.le_trans (Nat.add_le_add_right (Nat.le_trans lpre ltx) 1) (by decide)
    refine ⟨_, rfl, _, rfl, pl, rfl, tx, rfl, Nat.le_trans ltx (by decide), _, _, rfl, rfl, ?_, ?_⟩
    · rw [lapp]
      exact Nat.le_trans (Nat.add_le_add (Nat.add_le_add_right (Nat.le_trans lpre ltx) 1) (Nat.le_trans lsuf ltx)) (by decide)
    obtain ⟨z, hz⟩ : ∃ z, cutS tx none (some pl) ++ (⟨#[65 + i]⟩ : Str) ++ cutS tx (some pl) none = z := ⟨_, rfl⟩
    have ez : tl z = tl (cutS tx none (some pl)) ++ (65 + i) :: tl (cutS tx (some pl) none) := by
      rw [← hz, tl_app, tl_app, tl_str1, List.append_assoc]
      rfl
    have hpre : ∀ c ∈ tl (cutS tx none (some pl)), isLo c = true := fun c hc' => hlo c (by rw [← etx]; exact cutS_mem hc')
    have hsuf : ∀ c ∈ tl (cutS tx (some pl) none), isLo c = true := fun c hc' => hlo c (by rw [← etx]; exact cutS_mem hc')
    obtain ⟨⟨c, r, ec, hcd⟩, w1, w2⟩ := word_ok hi hpre hsuf (by rw [show (tl (cutS tx none (some pl))).length = (cutS tx none (some pl)).length from (TL.len_tl _).symm]; omega) (by rw [show (tl (cutS tx (some pl) none)).length = (cutS tx (some pl) none).length from (TL.len_tl _).symm]; omega) ez
    have lz : z.length ≤ 9 := by
      rw [← hz, TL.len_tl, TL.tl_append, List.length_append, ← TL.len_tl, ← TL.len_tl, lapp]
      omega
    have hat : atI z.cps.toList 0 = some c := by
      show atI (tl z) 0 = some c
      rw [ec]
      exact atI_nat (j := 0) rfl
    rw [hz]
    have e26 : cutS lo36 (some 26) none = ("0123456789" : Str) := by decide +kernel
    refine ⟨_, rfl, _, _, c, rfl, rfl, Nat.le_trans lz (by decide), hat, _, rfl, 26, rfl, lo36, rfl, by decide +kernel, c, _, rfl, rfl, _, rfl, ite2 (fun k => ?_) (fun k => ?_)⟩
    · have hk : c ∈ (cutS lo36 (some 26) none).cps.toList := of_decide_eq_true k
      rw [e26] at hk
      have hd : isD c = true := by
        have al : ∀ x ∈ ("0123456789" : Str).cps.toList, isD x = true := by decide +kernel
        exact al c hk
      have ev : (Str.ofString "v" : Str).length = 1 := by decide +kernel
      refine ⟨_, rfl, _, _, rfl, rfl, by rw [ev]; exact Nat.le_trans (Nat.add_le_add_left lz 1) (by decide), ?_⟩
      exact ⟨_, rfl, q _ H1 hs (w1 c r ec hd)⟩
    · have hk : ¬ c ∈ (cutS lo36 (some 26) none).cps.toList := fun z => k (decide_eq_true z)
      rw [e26] at hk
      have hd : isD c = false := by
        cases e : isD c with
        | false => rfl
        | true => exact absurd (dig_in (isD_lt e)) hk
      exact ⟨_, rfl, q _ H1 hs (w2 c r ec hd)⟩
end
end DP
namespace DP
open PySem PySem.Spec PyProof.Rows L2
abbrev s__law_satellite : Stmt := topS 46
theorem sc__law_satellite : FnScope ["stream", "index", "horizon", "store", "battery", "level", "reserve", "light", "least", "k", "first", "end", "numbers"] ["stream", "index", "horizon"] (defScope s__law_satellite) := ⟨rfl, rfl, rfl, by decide +kernel, rfl, by decide +kernel, by decide +kernel⟩
abbrev s__law_recording : Stmt := topS 47
theorem sc__law_recording : FnScope ["stream", "index", "satellites", "horizon", "earliest", "latest", "length", "deadline", "numbers", "urgency"] ["stream", "index", "satellites", "horizon"] (defScope s__law_recording) := ⟨rfl, rfl, rfl, by decide +kernel, rfl, by decide +kernel, by decide +kernel⟩
abbrev s__law_pass : Stmt := topS 48
theorem sc__law_pass : FnScope ["stream", "index", "satellites", "stations", "horizon", "first", "end", "numbers"] ["stream", "index", "satellites", "stations", "horizon"] (defScope s__law_pass) := ⟨rfl, rfl, rfl, by decide +kernel, rfl, by decide +kernel, by decide +kernel⟩
abbrev s__law_world : Stmt := topS 49
theorem sc__law_world : FnScope ["script", "stream", "horizon", "satellites", "stations", "recordings", "passes", "world", "k"] ["script"] (defScope s__law_world) := ⟨rfl, rfl, rfl, by decide +kernel, rfl, by decide +kernel, by decide +kernel⟩
def spanPy (q : Int × Int) : PyData := .tuple [.int q.1, .int q.2]
def satPy (s : SatD) : PyData := .tuple [.str s.name, .tuple [.int s.store, .int s.battery, .int s.level, .int s.reserve, .int s.charge, .int s.settle], .tuple (s.light.map spanPy)]
def staPy (s : StaD) : PyData := .tuple [.str s.name, .int s.antennas, .int s.turn]
def recPy (r : RecD) : PyData := .tuple [.str r.name, .int (r.sat : Int), .tuple [.int r.earliest, .int r.latest, .int r.length, .int r.size, .int r.energy], .tuple [.int r.worth, .int r.rank, .int r.deadline]]
def pasPy (p : PasD) : PyData := .tuple [.str p.name, .int (p.sat : Int), .int (p.sta : Int), .tuple [.int p.first, .int p.fin], .tuple [.int p.room, .int p.energy, .int p.fee]]
mutual
theorem dp_map {K : PySem.W.Frag} {H H' : Hp} (fT : ∀ b xs, SqT K H b xs → SqT K H' b xs) (fL : ∀ b xs, SqL K H b xs → SqL K H' b xs) : ∀ {v : V} {d : PyData}, Dp K H v d → Dp K H' v d
  | _, _, .non => .non
  | _, _, .bl b => .bl b
  | _, _, .int i => .int i
  | _, _, .str x => .str x
  | _, _, .lst h t => .lst (fL _ _ h) (dpAll_map fT fL t)
  | _, _, .tup h t => .tup (fT _ _ h) (dpAll_map fT fL t)
theorem dpAll_map {K : PySem.W.Frag} {H H' : Hp} (fT : ∀ b xs, SqT K H b xs → SqT K H' b xs) (fL : ∀ b xs, SqL K H b xs → SqL K H' b xs) : ∀ {xs : List V} {ds : List PyData}, DpAll K H xs ds → DpAll K H' xs ds
  | _, _, .nil => .nil
  | _, _, .cons a t => .cons (dp_map fT fL a) (dpAll_map fT fL t)
end
theorem dp_same {K : PySem.W.Frag} {H H' : Hp} (s : Same H H') {v : V} {d : PyData} (h : Dp K H v d) : Dp K H' v d := dp_map (fun _ _ => Same.tup s) (fun _ _ => s.seq) h
theorem dpAll_same {K : PySem.W.Frag} {H H' : Hp} (s : Same H H') {xs : List V} {ds : List PyData} (h : DpAll K H xs ds) : DpAll K H' xs ds := dpAll_map (fun _ _ => Same.tup s) (fun _ _ => s.seq) h
mutual
def noL : PyData → Prop
  | .list _ => False
  | .tuple ds => noLs ds
  | _ => True
def noLs : List PyData → Prop
  | [] => True
  | d :: ds => noL d ∧ noLs ds
end
mutual
theorem dpT_map {K : PySem.W.Frag} {H H' : Hp} (fT : ∀ b xs, SqT K H b xs → SqT K H' b xs) : ∀ {v : V} {d : PyData}, noL d → Dp K H v d → Dp K H' v d
  | _, _, _, .non => .non
  | _, _, _, .bl b => .bl b
  | _, _, _, .int i => .int i
  | _, _, _, .str x => .str x
  | _, _, n, .lst h t => False.elim (by unfold noL at n; exact n)
  | _, _, n, .tup h t => .tup (fT _ _ h) (dpTs_map fT (by unfold noL at n; exact n) t)
theorem dpTs_map {K : PySem.W.Frag} {H H' : Hp} (fT : ∀ b xs, SqT K H b xs → SqT K H' b xs) : ∀ {xs : List V} {ds : List PyData}, noLs ds → DpAll K H xs ds → DpAll K H' xs ds
  | _, _, _, .nil => .nil
  | _, _, n, .cons a t => .cons (dpT_map fT (by unfold noLs at n; exact n.1) a) (dpTs_map fT (by unfold noLs at n; exact n.2) t)
end
theorem noLs_map {α : Type} {f : α → PyData} (h : ∀ a, noL (f a)) : ∀ l : List α, noLs (l.map f)
  | [] => by show noLs []; unfold noLs; trivial
  | a :: r => by show noLs (f a :: r.map f); unfold noLs; exact ⟨h a, noLs_map h r⟩
theorem noL_span (q : Int × Int) : noL (spanPy q) := by unfold spanPy; simp [noL, noLs]
theorem noL_sat (s : SatD) : noL (satPy s) := by
  unfold satPy
  have := noLs_map noL_span s.light
  simp [noL, noLs, this]
theorem noL_sta (s : StaD) : noL (staPy s) := by unfold staPy; simp [noL, noLs]
theorem noL_rec (s : RecD) : noL (recPy s) := by unfold recPy; simp [noL, noLs]
theorem noL_pas (s : PasD) : noL (pasPy s) := by unfold pasPy; simp [noL, noLs]
theorem dpAll_snoc {K : PySem.W.Frag} {H : Hp} : ∀ {xs : List V} {ds : List PyData} {x : V} {d : PyData}, DpAll K H xs ds → Dp K H x d → DpAll K H (xs ++ [x]) (ds ++ [d])
  | _, _, _, _, .nil, h => .cons h .nil
  | _, _, _, _, .cons a t, h => .cons a (dpAll_snoc t h)
/-- tuples stay where a list is changed -/
theorem dpTs_up {K : PySem.W.Frag} {H : Hp} {L : Addr} {ys xs : List V} {ds : List PyData} {o : HO} (n : noLs ds) (e : H L = some (.lst ys)) (h : DpAll K H xs ds) : DpAll K (upd H L o) xs ds := dpTs_map (fun _ _ z => sqT_upd z e) n h
theorem dpT_up {K : PySem.W.Frag} {H : Hp} {L : Addr} {ys : List V} {v : V} {d : PyData} {o : HO} (n : noL d) (e : H L = some (.lst ys)) (h : Dp K H v d) : Dp K (upd H L o) v d := dpT_map (fun _ _ z => sqT_upd z e) n h
theorem spans_dp {K : PySem.W.Frag} {H : Hp} {xs : List V} {qs : List (Int × Int)} (h : Spans K H xs qs) : DpAll K H xs (qs.map spanPy) := by
  induction h with
  | nil => exact .nil
  | cons a _ ih =>
    obtain ⟨t, rfl, ht⟩ := a
    exact .cons (.tup ht (.cons (.int _) (.cons (.int _) .nil))) ih
/-- the end of the last span -/
def lastE : Int → List (Int × Int) → Int
  | a, [] => a
  | _, q :: r => lastE q.2 r
theorem LightOk.snoc {h : Int} {q : Int × Int} : ∀ {l : List (Int × Int)} {a : Int}, LightOk a h l → lastE a l ≤ q.1 → q.1 + 1 ≤ q.2 → q.2 ≤ h → LightOk a h (l ++ [q])
  | [], a, _, h1, h2, h3 => ⟨h1, h2, h3, trivial⟩
  | p :: r, a, ⟨g1, g2, g3, g4⟩, h1, h2, h3 => ⟨g1, g2, g3, g4.snoc h1 h2 h3⟩
theorem lastE_snoc {q : Int × Int} : ∀ (l : List (Int × Int)) (a : Int), lastE a (l ++ [q]) = q.2
  | [], _ => rfl
  | p :: r, _ => lastE_snoc r p.2
section
variable {P : Program} {w : World} {K : PySem.W.Frag} {mg : Str → Option Value} {base : Heap}
theorem sz2 : 2 ≤ sizeLine := by decide
theorem sz3 : 3 ≤ sizeLine := by decide
theorem sz4 : 4 ≤ sizeLine := by decide
theorem sz5 : 5 ≤ sizeLine := by decide
theorem sz6 : 6 ≤ sizeLine := by decide
def spGSat (K : PySem.W.Frag) : Sp := fun vs H Q _ => ∃ (st : Addr) (i : Nat) (h : Int), vs = [.ref st, .int (i : Int), .int h] ∧ i < 10 ∧ 1 ≤ h ∧ h ≤ 80 ∧ Strm H st ∧ ∀ x s H', Same H H' → SatOk h s → WordAt i s.name → Dp K H' x (satPy s) → s.level ≤ 1000 → Q x H'
theorem d_gsat (B : Bt mg) (D_law_next : DefOk P w K mg base CX0 1 "_law_next" ["stream", "many"] spNext) (D_law_word : DefOk P w K mg base CX0 2 "_law_word" ["stream", "index"] spWord)
    (A : At K mg "_law_satellite" s__law_satellite ["stream", "index", "horizon"]) : DefOk P w K mg base CX0 3 "_law_satellite" ["stream", "index", "horizon"] (spGSat K) := by
  refine A.ok sc__law_satellite (fun vs H Q E h => ?_) (fun f cdv A outer s H vs Q E hr h => ?_)
  · obtain ⟨st, i, h, rfl, _⟩ := h
    rfl
  obtain ⟨st, i, h, rfl, hi, h1, h80, hst, q⟩ := h
  refine ⟨_, pss_cons (ps_set (i := 3) sc__law_satellite.nd rfl (Or.inl rfl) (pe_f D_law_next (hr.mono (by omega)) pass0 (pa_cons (pv 0) (pa_cons pe_int pa_nil))))
  (pss_cons (ps_set (i := 4) sc__law_satellite.nd rfl (Or.inl rfl) (pe_op op_add pe_int (pe_f D_law_next (hr.mono (by omega)) pass0 (pa_cons (pv 0) (pa_cons pe_int pa_nil)))))
  (pss_cons (ps_set (i := 5) sc__law_satellite.nd rfl (Or.inl rfl) (pe_op op_mod (pe_f D_law_next (hr.mono (by omega)) pass0 (pa_cons (pv 0) (pa_cons pe_int pa_nil))) (pe_op op_add (pv 4) pe_int)))
  (pss_cons (ps_set (i := 6) sc__law_satellite.nd rfl (Or.inl rfl) (pe_op op_mod (pe_f D_law_next (hr.mono (by omega)) pass0 (pa_cons (pv 0) (pa_cons pe_int pa_nil))) (pe_op op_add (pe_op op_fdiv (pv 5) pe_int) pe_int)))
  (pss_cons (ps_set (i := 7) sc__law_satellite.nd rfl (Or.inl rfl) (pe_lst pa_nil))
  (pss_cons (ps_set (i := 8) sc__law_satellite.nd rfl (Or.inl rfl) pe_int)
  (pss_cons (ps_for PassesOwn.never rfl (pi_range1 (by rfl) B.range (pa_cons (pe_f D_law_next (hr.mono (by omega)) pass0 (pa_cons (pv 0) (pa_cons pe_int pa_nil))) pa_nil)) (pg_name (i := 9) sc__law_satellite.nd rfl (Or.inl rfl))
      (pss_cons (ps_set (i := 10) sc__law_satellite.nd rfl (Or.inl rfl) (pe_op op_add (pv 8) (pe_f D_law_next (hr.mono (by omega)) pass0 (pa_cons (pv 0) (pa_cons pe_int pa_nil)))))
      (pss_cons (ps_set (i := 11) sc__law_satellite.nd rfl (Or.inl rfl) (pe_op op_add (pe_op op_add (pv 10) pe_int) (pe_f D_law_next (hr.mono (by omega)) pass0 (pa_cons (pv 0) (pa_cons pe_int pa_nil)))))
      (pss_one (ps_if (pt_cmpR op_le (pv 11) (pv 2) (nomark _))
          (pss_cons (ps_expr (pe_bm PySem.F.plainAttrs_list PySem.F.slot_list_append PySem.F.type_list_append mt_append (pv 7) (pa_cons (pe_tup (pa_cons (pv 10) (pa_cons (pv 11) pa_nil))) pa_nil)))
          (pss_one (ps_set (i := 8) sc__law_satellite.nd rfl (Or.inl rfl) (pv 11))))
          (pss_nil))))))
  (pss_cons (ps_set (i := 12) sc__law_satellite.nd rfl (Or.inl rfl) (pe_tup (pa_cons (pv 3) (pa_cons (pv 4) (pa_cons (pv 5) (pa_cons (pv 6) (pa_cons (pe_f D_law_next (hr.mono (by omega)) pass0 (pa_cons (pv 0) (pa_cons pe_int pa_nil))) (pa_cons (pe_f D_law_next (hr.mono (by omega)) pass0 (pa_cons (pv 0) (pa_cons pe_int pa_nil))) pa_nil))))))))
  (pss_one (ps_ret (pe_tup (pa_cons (pe_f D_law_word (hr.mono (by omega)) pass0 (pa_cons (pv 0) (pa_cons (pv 1) pa_nil))) (pa_cons (pv 12) (pa_cons (pe_callTy (call_tuple_of) (by rfl) B.tuple (by decide +kernel) (pa_cons (pv 7) pa_nil)) pa_nil)))))))))))))
    , ?_⟩
  refine ⟨_, rfl, st, 30, rfl, by decide, hst, fun so so0 so1 => ?_⟩
  refine ⟨_, rfl, st, 60, rfl, by decide, hst, fun ba ba0 ba1 => ⟨_, _, rfl, rfl, ?_⟩⟩
  refine ⟨_, rfl, st, 60, rfl, by decide, hst, fun le le0 le1 => ⟨_, rfl, _, _, rfl, rfl, _, _, rfl, rfl, (by show 0 < 10 + ba + 1; omega), ?_⟩⟩
  have lv0 : 0 ≤ le % (10 + ba + 1) := Int.emod_nonneg _ (by omega)
  have lv1 : le % (10 + ba + 1) < 10 + ba + 1 := Int.emod_lt_of_pos _ (by omega)
  obtain ⟨lev, elev⟩ : ∃ z, le % (10 + ba + 1) = z := ⟨_, rfl⟩
  rw [elev] at lv0 lv1
  refine ⟨_, rfl, st, 60, rfl, by decide, hst, fun re re0 re1 => ⟨_, rfl, _, _, rfl, rfl, ⟨by decide, by decide⟩, _, _, rfl, rfl, _, _, rfl, rfl, (by show 0 < le % (10 + ba + 1) / 3 + 1; omega), ?_⟩⟩
  have rv0 : 0 ≤ re % (le % (10 + ba + 1) / 3 + 1) := Int.emod_nonneg _ (by omega)
  have rv1 : re % (le % (10 + ba + 1) / 3 + 1) < le % (10 + ba + 1) / 3 + 1 := Int.emod_lt_of_pos _ (by omega)
  refine ⟨Nat.zero_le _, fun L hL => ?_⟩
  have hst1 := hst.same (same_new hL (.lst []))
  refine ⟨_, rfl, st, 4, rfl, by decide, hst1, fun kn kn0 kn1 => ?_⟩
  refine ⟨kn, rfl, by omega, by omega, for_range (n := kn.toNat) (fun j σ H' => ∃ (ls : List V) (qs : List (Int × Int)) (le' : Int) (y9 y10 y11 : Option V), σ = [some (.ref st), some (.int (i : Int)), some (.int h), some (.int so), some (.int (10 + ba)), some (.int (le % (10 + ba + 1))), some (.int (re % (le % (10 + ba + 1) / 3 + 1))), some (.ref L), some (.int le'), y9, y10, y11, none] ∧
    0 ≤ le' ∧ le' = lastE 0 qs ∧ qs.length ≤ j ∧ LightOk 0 h qs ∧ H' L = some (.lst ls) ∧ Spans K H' ls qs ∧ Same H H') ⟨[], [], 0, none, none, none, rfl, Int.le_refl 0, rfl, Nat.le_refl _, trivial, upd_same, .nil, same_new hL _⟩ (fun j σ H1 hj hI => ?_) (fun σ H1 hI => ?_)⟩
  · obtain ⟨ls, qs, le', y9, y10, y11, rfl, hl0, hll, hql, hok, hLL, hsp, hs⟩ := hI
    have hstj := hst.same hs
    refine ⟨_, rfl, _, rfl, st, 12, rfl, by decide, hstj, fun u u0 u1 => ⟨_, _, rfl, rfl, ?_⟩⟩
    refine ⟨_, rfl, _, _, rfl, rfl, _, rfl, st, 15, rfl, by decide, hstj, fun v v0 v1 => ⟨_, _, rfl, rfl, ?_⟩⟩
    refine ⟨_, rfl, _, rfl, _, _, rfl, rfl, _, rfl, ite2 (fun c => ?_) (fun c => ?_)⟩
    · have c' : le' + u + 1 + v ≤ h := of_decide_eq_true c
      refine ⟨_, rfl, .inl ⟨rfl, _, SqL.of hLL⟩, _, rfl, _, rfl, sz2, fun t ht => ?_⟩
      have eLt : L ≠ t := ne_of_none hLL ht
      have hLt : (upd H1 t (.tup [.int (le' + u), .int (le' + u + 1 + v)])) L = some (.lst ls) := by rw [upd_ne eLt]; exact hLL
      refine ⟨L, ls, .ref t, rfl, rfl, hLt, by rw [paired_len hsp]; exact small1000 (by omega), ?_⟩
      refine ⟨_, rfl, ls ++ [.ref t], qs ++ [(le' + u, le' + u + 1 + v)], _, _, _, _, rfl, by omega, by rw [lastE_snoc], by rw [List.length_append, List.length_singleton]; omega, ?_, upd_same, ?_, same_at hL (hs.trans (same_new ht _)) _⟩
      · exact hok.snoc (by rw [← hll]; show le' ≤ le' + u; omega) (by show le' + u + 1 ≤ le' + u + 1 + v; omega) c'
      · exact Spans.upd (paired_snoc (hsp.same (same_new ht _)) ⟨t, rfl, SqT.of upd_same⟩) hLt
    · exact ⟨ls, qs, le', _, _, _, rfl, hl0, hll, by omega, hok, hLL, hsp, hs⟩
  · obtain ⟨ls, qs, le', y9, y10, y11, rfl, hl0, hll, hql, hok, hLL, hsp, hs⟩ := hI
    have hstj := hst.same hs
    refine ⟨_, rfl, _, rfl, _, rfl, _, rfl, _, rfl, st, 5, rfl, by decide, hstj, fun ch ch0 ch1 => ⟨_, rfl, st, 4, rfl, by decide, hstj, fun se se0 se1 => ⟨sz6, fun t ht => ?_⟩⟩⟩
    have sA := same_new ht (.tup [.int so, .int (10 + ba), .int (le % (10 + ba + 1)), .int (re % (le % (10 + ba + 1) / 3 + 1)), .int ch, .int se])
    refine ⟨_, rfl, _, rfl, st, i, rfl, hi, hstj.same sA, fun u H2 s2 hu => ?_⟩
    have hL2 := s2 _ _ (sA _ _ hLL)
    refine ⟨_, rfl, _, rfl, L, ls, rfl, .inl ⟨SqL.of hL2, fun t2 ht2 => ⟨sz3, fun r hr' => ?_⟩⟩⟩
    have sB := same_new ht2 (.tup ls)
    have sC := same_new hr' (.tup [.str u, .ref t, .ref t2])
    have sAll := s2.trans (sB.trans sC)
    refine q (.ref r) ⟨u, so, 10 + ba, le % (10 + ba + 1), re % (le % (10 + ba + 1) / 3 + 1), ch, se, qs⟩ _ (hs.trans (sA.trans sAll)) ⟨hu.ok, by show 0 ≤ so ∧ so ≤ 1000000; omega, by show 0 ≤ 10 + ba ∧ 10 + ba ≤ 1000000; omega, by show 0 ≤ le % (10 + ba + 1) ∧ le % (10 + ba + 1) ≤ 10 + ba; omega, by show 0 ≤ re % (le % (10 + ba + 1) / 3 + 1) ∧ re % (le % (10 + ba + 1) / 3 + 1) ≤ le % (10 + ba + 1); omega, by show 0 ≤ ch ∧ ch ≤ 1000; omega, by show 0 ≤ se ∧ se ≤ 60; omega, hok⟩ hu ?_ (by show le % (10 + ba + 1) ≤ 1000; rw [elev]; omega)
    refine .tup (SqT.of upd_same) (.cons (.str _) (.cons (.tup (SqT.of (sAll _ _ upd_same)) (.cons (.int _) (.cons (.int _) (.cons (.int _) (.cons (.int _) (.cons (.int _) (.cons (.int _) .nil))))))) (.cons (.tup (SqT.of (sC _ _ upd_same)) ?_) .nil)))
    exact spans_dp ((hsp.same sA).same sAll)
def spGRec (K : PySem.W.Frag) : Sp := fun vs H Q _ => ∃ (st : Addr) (i n : Nat) (h : Int), vs = [.ref st, .int (i : Int), .int (n : Int), .int h] ∧ i < 10 ∧ 0 < n ∧ 1 ≤ h ∧ h ≤ 80 ∧ Strm H st ∧
  ∀ x r H', Same H H' → (∀ W : WorldD, W.sats.length = n → W.horizon = h → RecOk W r) → WordAt i r.name → Dp K H' x (recPy r) → Q x H'
theorem at5 {v : Int} (h0 : 0 ≤ v) (h1 : v < 5) : ∃ m : Int, atI ([V.int 0, V.int 0, V.int 1, V.int 2, V.int 5] : List V) v = some (.int m) ∧ 0 ≤ m ∧ m ≤ 5 := by
  have all : ∀ j, j < 5 → ∃ m : Int, ([0, 0, 1, 2, 5] : List Int)[j]? = some m ∧ 0 ≤ m ∧ m ≤ 5 := fun j hj => by
    refine ⟨([0, 0, 1, 2, 5] : List Int)[j], List.getElem?_eq_getElem _, ?_⟩
    have al : ∀ c ∈ ([0, 0, 1, 2, 5] : List Int), 0 ≤ c ∧ c ≤ 5 := by decide
    exact al _ (List.getElem_mem _)
  obtain ⟨m, e, b⟩ := all v.toNat (by omega)
  have := atI_nat (xs := ([0, 0, 1, 2, 5] : List Int).map V.int) (j := v.toNat) (v := .int m) (by rw [List.getElem?_map, e]; rfl)
  rw [show ((v.toNat : Nat) : Int) = v by omega] at this
  exact ⟨m, this, b⟩
theorem at3 {v : Int} (h0 : 0 ≤ v) (h1 : v < 3) : ∃ m : Int, atI ([V.int 60, V.int 40, V.int 30] : List V) v = some (.int m) ∧ 0 ≤ m ∧ m ≤ 60 := by
  have all : ∀ j, j < 3 → ∃ m : Int, ([60, 40, 30] : List Int)[j]? = some m ∧ 0 ≤ m ∧ m ≤ 60 := fun j hj => by
    refine ⟨([60, 40, 30] : List Int)[j], List.getElem?_eq_getElem _, ?_⟩
    have al : ∀ c ∈ ([60, 40, 30] : List Int), 0 ≤ c ∧ c ≤ 60 := by decide
    exact al _ (List.getElem_mem _)
  obtain ⟨m, e, b⟩ := all v.toNat (by omega)
  have := atI_nat (xs := ([60, 40, 30] : List Int).map V.int) (j := v.toNat) (v := .int m) (by rw [List.getElem?_map, e]; rfl)
  rw [show ((v.toNat : Nat) : Int) = v by omega] at this
  exact ⟨m, this, b⟩
theorem min_at {i j n : Int} : ∃ m, (if j < i then j else i) = m ∧ m ≤ i ∧ m ≤ j ∧ (m = i ∨ m = j) := by
  refine ⟨_, rfl, ?_⟩
  split <;> omega
theorem d_grec (B : Bt mg) (D_law_next : DefOk P w K mg base CX0 1 "_law_next" ["stream", "many"] spNext) (D_law_word : DefOk P w K mg base CX0 2 "_law_word" ["stream", "index"] spWord)
    (A : At K mg "_law_recording" s__law_recording ["stream", "index", "satellites", "horizon"]) : DefOk P w K mg base CX0 3 "_law_recording" ["stream", "index", "satellites", "horizon"] (spGRec K) := by
  refine A.ok sc__law_recording (fun vs H Q E h => ?_) (fun f cdv A outer s H vs Q E hr h => ?_)
  · obtain ⟨st, i, n, h, rfl, _⟩ := h
    rfl
  obtain ⟨st, i, n, h, rfl, hi, hn, h1, h80, hst, q⟩ := h
  refine ⟨_, pss_cons (ps_set (i := 4) sc__law_recording.nd rfl (Or.inl rfl) (pe_op op_mod (pe_f D_law_next (hr.mono (by omega)) pass0 (pa_cons (pv 0) (pa_cons pe_int pa_nil))) (pv 3)))
  (pss_cons (ps_set (i := 5) sc__law_recording.nd rfl (Or.inl rfl) (pe_callB (call_min2 rfl) (by rfl) B.min (by decide +kernel) (pa_cons (pe_op op_add (pv 4) (pe_ix ix_list (pe_lst (pa_cons pe_int (pa_cons pe_int (pa_cons pe_int (pa_cons pe_int (pa_cons pe_int pa_nil)))))) (pe_f D_law_next (hr.mono (by omega)) pass0 (pa_cons (pv 0) (pa_cons pe_int pa_nil))) (fun _ _ => rfl))) (pa_cons (pe_op op_sub (pv 3) pe_int) pa_nil))))
  (pss_cons (ps_set (i := 6) sc__law_recording.nd rfl (Or.inl rfl) (pe_op op_add pe_int (pe_op op_mod (pe_f D_law_next (hr.mono (by omega)) pass0 (pa_cons (pv 0) (pa_cons pe_int pa_nil))) (pe_op op_sub (pv 3) (pv 5)))))
  (pss_cons (ps_set (i := 7) sc__law_recording.nd rfl (Or.inl rfl) (pe_callB (call_min2 rfl) (by rfl) B.min (by decide +kernel) (pa_cons (pv 3) (pa_cons (pe_op op_add (pe_ix ix_list (pe_lst (pa_cons pe_int (pa_cons pe_int (pa_cons pe_int pa_nil)))) (pe_f D_law_next (hr.mono (by omega)) pass0 (pa_cons (pv 0) (pa_cons pe_int pa_nil))) (fun _ _ => rfl)) (pe_f D_law_next (hr.mono (by omega)) pass0 (pa_cons (pv 0) (pa_cons pe_int pa_nil)))) pa_nil))))
  (pss_cons (ps_set (i := 8) sc__law_recording.nd rfl (Or.inl rfl) (pe_tup (pa_cons (pv 4) (pa_cons (pv 5) (pa_cons (pv 6) (pa_cons (pe_f D_law_next (hr.mono (by omega)) pass0 (pa_cons (pv 0) (pa_cons pe_int pa_nil))) (pa_cons (pe_f D_law_next (hr.mono (by omega)) pass0 (pa_cons (pv 0) (pa_cons pe_int pa_nil))) pa_nil)))))))
  (pss_cons (ps_set (i := 9) sc__law_recording.nd rfl (Or.inl rfl) (pe_tup (pa_cons (pe_op op_add pe_int (pe_f D_law_next (hr.mono (by omega)) pass0 (pa_cons (pv 0) (pa_cons pe_int pa_nil)))) (pa_cons (pe_op op_add pe_int (pe_f D_law_next (hr.mono (by omega)) pass0 (pa_cons (pv 0) (pa_cons pe_int pa_nil)))) (pa_cons (pv 7) pa_nil)))))
  (pss_one (ps_ret (pe_tup (pa_cons (pe_f D_law_word (hr.mono (by omega)) pass0 (pa_cons (pv 0) (pa_cons (pv 1) pa_nil))) (pa_cons (pe_f D_law_next (hr.mono (by omega)) pass0 (pa_cons (pv 0) (pa_cons (pv 2) pa_nil))) (pa_cons (pv 8) (pa_cons (pv 9) pa_nil))))))))))))
    , ?_⟩
  refine ⟨_, rfl, st, 30, rfl, by decide, hst, fun ea ea0 ea1 => ⟨_, rfl, _, _, rfl, rfl, (by show 0 < h; omega), ?_⟩⟩
  have e0 : 0 ≤ ea % h := Int.emod_nonneg _ (by omega)
  have e1 : ea % h < h := Int.emod_lt_of_pos _ (by omega)
  refine ⟨_, rfl, sz5, fun pm hpm => ?_⟩
  have s1 := same_new hpm (.lst [.int 0, .int 0, .int 1, .int 2, .int 5])
  have hst1 := hst.same s1
  refine ⟨_, rfl, st, 5, rfl, by decide, hst1, fun v v0 v1 => ?_⟩
  obtain ⟨m, hm, m0, m5⟩ := at5 v0 v1
  refine ⟨pm, _, _, _, rfl, rfl, SqL.of upd_same, hm, _, _, rfl, rfl, _, rfl, _, _, rfl, rfl, _, _, rfl, ?_⟩
  obtain ⟨la, ela, la1, la2, la3⟩ := min_at (i := ea % h + m) (j := h - 1) (n := 0)
  have ela' : (if h - 1 < ea % h + m then h - 1 else ea % h + m) = la := ela
  refine ⟨_, rfl, st, 8, rfl, by decide, hst1, fun le le0 le1 => ⟨_, rfl, _, rfl, _, _, rfl, rfl, _, _, rfl, rfl, ?_, _, _, rfl, rfl, ?_⟩⟩
  · show 0 < h - (if h - 1 < ea % h + m then h - 1 else ea % h + m)
    rw [ela']
    omega
  have l0 : 0 ≤ le % (h - la) := Int.emod_nonneg _ (by omega)
  have l1 : le % (h - la) < h - la := Int.emod_lt_of_pos _ (by omega)
  refine ⟨_, rfl, sz3, fun pd hpd => ?_⟩
  have s2 := same_new hpd (.lst [.int 60, .int 40, .int 30])
  have hst2 := hst1.same s2
  refine ⟨_, rfl, st, 3, rfl, by decide, hst2, fun d d0 d1 => ?_⟩
  obtain ⟨dm, hdm, dm0, dm1⟩ := at3 d0 d1
  refine ⟨pd, _, _, _, rfl, rfl, SqL.of upd_same, hdm, _, rfl, st, 20, rfl, by decide, hst2, fun dd dd0 dd1 => ⟨_, _, rfl, rfl, _, _, rfl, ?_⟩⟩
  obtain ⟨de, ede, de1, de2, de3⟩ := min_at (i := h) (j := dm + dd) (n := 0)
  have ede' : (if dm + dd < h then dm + dd else h) = de := ede
  refine ⟨_, rfl, _, rfl, _, rfl, _, rfl, st, 16, rfl, by decide, hst2, fun si si0 si1 => ⟨_, rfl, st, 16, rfl, by decide, hst2, fun en en0 en1 => ⟨sz5, fun t1 ht1 => ?_⟩⟩⟩
  have hst3 := hst2.same (same_new ht1 (.tup [.int (ea % h), .int (if h - 1 < ea % h + m then h - 1 else ea % h + m), .int (1 + le % (h - if h - 1 < ea % h + m then h - 1 else ea % h + m)), .int si, .int en]))
  refine ⟨_, rfl, st, 30, rfl, by decide, hst3, fun wo wo0 wo1 => ⟨_, _, rfl, rfl, _, rfl, st, 3, rfl, by decide, hst3, fun ra ra0 ra1 => ⟨_, _, rfl, rfl, _, rfl, sz3, fun t2 ht2 => ?_⟩⟩⟩
  have s4 := same_new ht2 (.tup [.int (1 + wo), .int (1 + ra), .int (if dm + dd < h then dm + dd else h)])
  have hst4 := hst3.same s4
  refine ⟨_, rfl, _, rfl, st, i, rfl, hi, hst4, fun u H5 s5 hu => ⟨_, rfl, _, rfl, st, n, rfl, by omega, hst4.same s5, fun sa sa0 sa1 => ⟨_, rfl, _, rfl, sz4, fun r hr' => ?_⟩⟩⟩
  have s6 := same_new hr' (.tup [.str u, .int sa, .ref t1, .ref t2])
  have s3 := same_new ht1 (.tup [.int (ea % h), .int (if h - 1 < ea % h + m then h - 1 else ea % h + m), .int (1 + le % (h - if h - 1 < ea % h + m then h - 1 else ea % h + m)), .int si, .int en])
  refine q (.ref r) ⟨u, sa.toNat, ea % h, la, 1 + le % (h - la), si, en, 1 + wo, 1 + ra, de⟩ _ (s1.trans (s2.trans (s3.trans (s4.trans (s5.trans s6))))) (fun W wn wh => ?_) hu ?_
  · subst wh
    exact ⟨hu.ok, by show sa.toNat < W.sats.length; omega, by show 0 ≤ ea % W.horizon ∧ ea % W.horizon ≤ W.horizon - 1; omega, by show ea % W.horizon ≤ la ∧ la ≤ ea % W.horizon + 20 ∧ la ≤ W.horizon - 1; omega, by show 1 ≤ 1 + le % (W.horizon - la) ∧ 1 + le % (W.horizon - la) ≤ W.horizon - la; omega,
      by show 0 ≤ si ∧ si ≤ 1000000; omega, by show 0 ≤ en ∧ en ≤ 1000000; omega, by show 1 ≤ 1 + wo ∧ 1 + wo ≤ 1000; omega, by show 1 ≤ 1 + ra ∧ 1 + ra ≤ 3; omega, by show 0 ≤ de ∧ de ≤ W.horizon; omega⟩
  · have g1 := s6 _ _ (s5 _ _ (s4 _ _ (upd_same (H := upd (upd H pm (.lst [.int 0, .int 0, .int 1, .int 2, .int 5])) pd (.lst [.int 60, .int 40, .int 30])) (a := t1) (o := .tup [.int (ea % h), .int (if h - 1 < ea % h + m then h - 1 else ea % h + m), .int (1 + le % (h - if h - 1 < ea % h + m then h - 1 else ea % h + m)), .int si, .int en]))))
    have g2 := s6 _ _ (s5 _ _ (upd_same (H := upd (upd (upd H pm (.lst [.int 0, .int 0, .int 1, .int 2, .int 5])) pd (.lst [.int 60, .int 40, .int 30])) t1 (.tup [.int (ea % h), .int (if h - 1 < ea % h + m then h - 1 else ea % h + m), .int (1 + le % (h - if h - 1 < ea % h + m then h - 1 else ea % h + m)), .int si, .int en])) (a := t2) (o := .tup [.int (1 + wo), .int (1 + ra), .int (if dm + dd < h then dm + dd else h)])))
    rw [ela'] at g1
    rw [ede'] at g2
    have es : ((sa.toNat : Nat) : Int) = sa := by omega
    refine .tup (SqT.of upd_same) (.cons (.str _) (.cons ?_ (.cons (.tup (SqT.of g1) (.cons (.int _) (.cons (.int _) (.cons (.int _) (.cons (.int _) (.cons (.int _) .nil)))))) (.cons (.tup (SqT.of g2) (.cons (.int _) (.cons (.int _) (.cons (.int _) .nil)))) .nil))))
    rw [es]
    exact .int _
end
end DP
namespace DP
open PySem PySem.Spec PyProof.Rows L2
section
variable {P : Program} {w : World} {K : PySem.W.Frag} {mg : Str → Option Value} {base : Heap}
def spGPas (K : PySem.W.Frag) : Sp := fun vs H Q _ => ∃ (st : Addr) (i n m : Nat) (h : Int), vs = [.ref st, .int (i : Int), .int (n : Int), .int (m : Int), .int h] ∧ i < 10 ∧ 0 < n ∧ 0 < m ∧ 1 ≤ h ∧ h ≤ 80 ∧ Strm H st ∧
  ∀ x r H', Same H H' → (∀ W : WorldD, W.sats.length = n → W.stas.length = m → W.horizon = h → PasOk W r) → WordAt i r.name → Dp K H' x (pasPy r) → Q x H'
theorem d_gpas (B : Bt mg) (D_law_next : DefOk P w K mg base CX0 1 "_law_next" ["stream", "many"] spNext) (D_law_word : DefOk P w K mg base CX0 2 "_law_word" ["stream", "index"] spWord)
    (A : At K mg "_law_pass" s__law_pass ["stream", "index", "satellites", "stations", "horizon"]) : DefOk P w K mg base CX0 3 "_law_pass" ["stream", "index", "satellites", "stations", "horizon"] (spGPas K) := by
  refine A.ok sc__law_pass (fun vs H Q E h => ?_) (fun f cdv A outer s H vs Q E hr h => ?_)
  · obtain ⟨st, i, n, m, h, rfl, _⟩ := h
    rfl
  obtain ⟨st, i, n, m, h, rfl, hi, hn, hm, h1, h80, hst, q⟩ := h
  refine ⟨_, pss_cons (ps_set (i := 5) sc__law_pass.nd rfl (Or.inl rfl) (pe_op op_mod (pe_op op_add pe_int (pe_f D_law_next (hr.mono (by omega)) pass0 (pa_cons (pv 0) (pa_cons pe_int pa_nil)))) (pv 4)))
  (pss_cons (ps_set (i := 6) sc__law_pass.nd rfl (Or.inl rfl) (pe_callB (call_min2 rfl) (by rfl) B.min (by decide +kernel) (pa_cons (pv 4) (pa_cons (pe_op op_add (pe_op op_add (pv 5) pe_int) (pe_f D_law_next (hr.mono (by omega)) pass0 (pa_cons (pv 0) (pa_cons pe_int pa_nil)))) pa_nil))))
  (pss_cons (ps_set (i := 7) sc__law_pass.nd rfl (Or.inl rfl) (pe_tup (pa_cons (pe_f D_law_next (hr.mono (by omega)) pass0 (pa_cons (pv 0) (pa_cons pe_int pa_nil))) (pa_cons (pe_f D_law_next (hr.mono (by omega)) pass0 (pa_cons (pv 0) (pa_cons pe_int pa_nil))) (pa_cons (pe_f D_law_next (hr.mono (by omega)) pass0 (pa_cons (pv 0) (pa_cons pe_int pa_nil))) pa_nil)))))
  (pss_one (ps_ret (pe_tup (pa_cons (pe_f D_law_word (hr.mono (by omega)) pass0 (pa_cons (pv 0) (pa_cons (pv 1) pa_nil))) (pa_cons (pe_f D_law_next (hr.mono (by omega)) pass0 (pa_cons (pv 0) (pa_cons (pv 2) pa_nil))) (pa_cons (pe_f D_law_next (hr.mono (by omega)) pass0 (pa_cons (pv 0) (pa_cons (pv 3) pa_nil))) (pa_cons (pe_tup (pa_cons (pv 5) (pa_cons (pv 6) pa_nil))) (pa_cons (pv 7) pa_nil))))))))))
    , ?_⟩
  refine ⟨_, rfl, st, 45, rfl, by decide, hst, fun fi fi0 fi1 => ⟨_, _, rfl, rfl, _, rfl, _, _, rfl, rfl, (by show 0 < h; omega), ?_⟩⟩
  have e0 : 0 ≤ (10 + fi) % h := Int.emod_nonneg _ (by omega)
  have e1 : (10 + fi) % h < h := Int.emod_lt_of_pos _ (by omega)
  refine ⟨_, rfl, _, rfl, _, _, rfl, rfl, _, rfl, st, 12, rfl, by decide, hst, fun u u0 u1 => ⟨_, _, rfl, rfl, _, _, rfl, ?_⟩⟩
  obtain ⟨en, een, en1, en2, en3⟩ := min_at (i := h) (j := (10 + fi) % h + 1 + u) (n := 0)
  have een' : (if (10 + fi) % h + 1 + u < h then (10 + fi) % h + 1 + u else h) = en := een
  refine ⟨_, rfl, st, 30, rfl, by decide, hst, fun ro ro0 ro1 => ⟨_, rfl, st, 12, rfl, by decide, hst, fun eg eg0 eg1 => ⟨_, rfl, st, 6, rfl, by decide, hst, fun fe fe0 fe1 => ⟨sz3, fun t1 ht1 => ?_⟩⟩⟩⟩
  have s1 := same_new ht1 (.tup [.int ro, .int eg, .int fe])
  have hst1 := hst.same s1
  refine ⟨_, rfl, _, rfl, st, i, rfl, hi, hst1, fun nm H2 s2 hu => ⟨_, rfl, _, rfl, st, n, rfl, by omega, hst1.same s2, fun sa sa0 sa1 => ⟨_, rfl, _, rfl, st, m, rfl, by omega, hst1.same s2, fun ta ta0 ta1 => ?_⟩⟩⟩
  refine ⟨_, rfl, _, rfl, sz2, fun t2 ht2 => ⟨_, rfl, sz5, fun r hr' => ?_⟩⟩
  have s3 := same_new ht2 (.tup [.int ((10 + fi) % h), .int (if (10 + fi) % h + 1 + u < h then (10 + fi) % h + 1 + u else h)])
  have s4 := same_new hr' (.tup [.str nm, .int sa, .int ta, .ref t2, .ref t1])
  refine q (.ref r) ⟨nm, sa.toNat, ta.toNat, (10 + fi) % h, en, ro, eg, fe⟩ _ (s1.trans (s2.trans (s3.trans s4))) (fun W wn wm wh => ?_) hu ?_
  · subst wh
    exact ⟨hu.ok, by show sa.toNat < W.sats.length; omega, by show ta.toNat < W.stas.length; omega, by show 0 ≤ (10 + fi) % W.horizon ∧ (10 + fi) % W.horizon ≤ W.horizon - 1; omega, by show (10 + fi) % W.horizon + 1 ≤ en ∧ en ≤ W.horizon; omega,
      by show 0 ≤ ro ∧ ro ≤ 1000000; omega, by show 0 ≤ eg ∧ eg ≤ 1000000; omega, by show 0 ≤ fe ∧ fe ≤ 1000; omega⟩
  · have g1 := s4 _ _ (s3 _ _ (s2 _ _ (upd_same (H := H) (a := t1) (o := .tup [.int ro, .int eg, .int fe]))))
    have g2 := s4 _ _ (upd_same (H := H2) (a := t2) (o := .tup [.int ((10 + fi) % h), .int (if (10 + fi) % h + 1 + u < h then (10 + fi) % h + 1 + u else h)]))
    have es : ((sa.toNat : Nat) : Int) = sa := by omega
    have et : ((ta.toNat : Nat) : Int) = ta := by omega
    refine .tup (SqT.of upd_same) (.cons (.str _) (.cons ?_ (.cons ?_ (.cons (.tup (SqT.of (g2.trans (by rw [een']))) (.cons (.int _) (.cons (.int _) .nil))) (.cons (.tup (SqT.of g1) (.cons (.int _) (.cons (.int _) (.cons (.int _) .nil)))) .nil)))))
    · rw [es]; exact .int _
    · rw [et]; exact .int _
def wdK (h : Int) (a b c d : Addr) : List (Key × V) := [(.inr "horizon", .int h), (.inr "satellites", .ref a), (.inr "stations", .ref b), (.inr "recordings", .ref c), (.inr "passes", .ref d)]
theorem kd_ne {a b : Str} (h : (a == b) = false) : decide ((Sum.inr a : Key) = Sum.inr b) = false := decide_eq_false fun z => by
  have := Sum.inr.inj z
  rw [this, beq_self_eq_true] at h
  cases h
theorem put_any_no {kvs : List (Key × V)} {k : Key} {v : V} (h : kvs.any (fun kv => decide (kv.1 = k)) = false) : putK kvs k v = kvs ++ [(k, v)] := by
  unfold putK
  rw [if_neg (by rw [h]; exact Bool.false_ne_true)]
theorem any_miss {g k : Str} {x : V} {r : List (Key × V)} (h : (g == k) = false) (t : r.any (fun kv => decide (kv.1 = (Sum.inr k : Key))) = false) : ((Sum.inr g, x) :: r : List (Key × V)).any (fun kv => decide (kv.1 = (Sum.inr k : Key))) = false := by
  rw [List.any_cons, kd_ne h, t]
  rfl
theorem wd_merge (h : Int) (a b c d : Addr) : mergeK [] (wdK h a b c d) = wdK h a b c d := by
  have e1 : putK ([] : List (Key × V)) (.inr "horizon") (.int h) = [(.inr "horizon", .int h)] := put_any_no rfl
  have e2 : putK ([(.inr "horizon", .int h)] : List (Key × V)) (.inr "satellites") (.ref a) = [(.inr "horizon", .int h), (.inr "satellites", .ref a)] := put_any_no (any_miss (by decide +kernel) rfl)
  have e3 : putK ([(.inr "horizon", .int h), (.inr "satellites", .ref a)] : List (Key × V)) (.inr "stations") (.ref b) = [(.inr "horizon", .int h), (.inr "satellites", .ref a), (.inr "stations", .ref b)] :=
    put_any_no (any_miss (by decide +kernel) (any_miss (by decide +kernel) rfl))
  have e4 : putK ([(.inr "horizon", .int h), (.inr "satellites", .ref a), (.inr "stations", .ref b)] : List (Key × V)) (.inr "recordings") (.ref c) = [(.inr "horizon", .int h), (.inr "satellites", .ref a), (.inr "stations", .ref b), (.inr "recordings", .ref c)] :=
    put_any_no (any_miss (by decide +kernel) (any_miss (by decide +kernel) (any_miss (by decide +kernel) rfl)))
  have e5 : putK ([(.inr "horizon", .int h), (.inr "satellites", .ref a), (.inr "stations", .ref b), (.inr "recordings", .ref c)] : List (Key × V)) (.inr "passes") (.ref d) = wdK h a b c d :=
    put_any_no (any_miss (by decide +kernel) (any_miss (by decide +kernel) (any_miss (by decide +kernel) (any_miss (by decide +kernel) rfl))))
  unfold mergeK
  show putK (κ := Key) (putK (κ := Key) (putK (κ := Key) (putK (κ := Key) (putK (κ := Key) [] (.inr "horizon") (.int h)) (.inr "satellites") (.ref a)) (.inr "stations") (.ref b)) (.inr "recordings") (.ref c)) (.inr "passes") (.ref d) = _
  rw [e1, e2, e3, e4, e5]
theorem putK_hit {k : Str} {x v : V} {r : List (Key × V)} (hr : ∀ p ∈ r, p.1 ≠ (Sum.inr k : Key)) : putK ((Sum.inr k, x) :: r) (Sum.inr k) v = (Sum.inr k, v) :: r := by
  unfold putK
  rw [if_pos (by rw [List.any_cons, decide_eq_true rfl]; rfl), List.map_cons, if_pos rfl]
  congr 1
  exact (List.map_congr_left fun p hp => if_neg (hr p hp)).trans (List.map_id _)
theorem putK_miss {g k : Str} {x v : V} {r : List (Key × V)} (h : (g == k) = false) (hit : r.any (fun kv => decide (kv.1 = (Sum.inr k : Key))) = true) : putK ((Sum.inr g, x) :: r) (Sum.inr k) v = (Sum.inr g, x) :: putK r (Sum.inr k) v := by
  have hn : ¬ ((Sum.inr g : Key) = Sum.inr k) := fun z => by
    have := Sum.inr.inj z
    rw [this, beq_self_eq_true] at h
    cases h
  unfold putK
  rw [if_pos (by rw [List.any_cons, hit, Bool.or_true]), if_pos hit, List.map_cons, if_neg hn]
theorem any_hit {k : Str} {x : V} {r : List (Key × V)} : ((Sum.inr k, x) :: r : List (Key × V)).any (fun kv => decide (kv.1 = (Sum.inr k : Key))) = true := by
  rw [List.any_cons, decide_eq_true rfl]
  rfl
theorem any_later {g k : Str} {x : V} {r : List (Key × V)} (t : r.any (fun kv => decide (kv.1 = (Sum.inr k : Key))) = true) : ((Sum.inr g, x) :: r : List (Key × V)).any (fun kv => decide (kv.1 = (Sum.inr k : Key))) = true := by
  rw [List.any_cons, t, Bool.or_true]
theorem key_ne {a b : Str} (h : (a == b) = false) : (Sum.inr a : Key) ≠ Sum.inr b := fun z => by
  have := Sum.inr.inj z
  rw [this, beq_self_eq_true] at h
  cases h
theorem nin_nil {k : Str} : ∀ p ∈ ([] : List (Key × V)), p.1 ≠ (Sum.inr k : Key) := fun _ h => absurd h List.not_mem_nil
theorem nin_cons {g k : Str} {x : V} {r : List (Key × V)} (h : (g == k) = false) (t : ∀ p ∈ r, p.1 ≠ (Sum.inr k : Key)) : ∀ p ∈ ((Sum.inr g, x) :: r : List (Key × V)), p.1 ≠ (Sum.inr k : Key) := fun p hp => by
  rcases List.mem_cons.mp hp with rfl | hp
  · exact key_ne h
  · exact t p hp
theorem wd_putS (h : Int) (a b c d z : Addr) : putK (wdK h a b c d) (.inr "satellites") (.ref z) = wdK h z b c d := by
  unfold wdK
  rw [putK_miss (by decide +kernel) any_hit, putK_hit (nin_cons (by decide +kernel) (nin_cons (by decide +kernel) (nin_cons (by decide +kernel) nin_nil)))]
theorem wd_putT (h : Int) (a b c d z : Addr) : putK (wdK h a b c d) (.inr "stations") (.ref z) = wdK h a z c d := by
  unfold wdK
  rw [putK_miss (by decide +kernel) (any_later any_hit), putK_miss (by decide +kernel) any_hit, putK_hit (nin_cons (by decide +kernel) (nin_cons (by decide +kernel) nin_nil))]
theorem wd_putR (h : Int) (a b c d z : Addr) : putK (wdK h a b c d) (.inr "recordings") (.ref z) = wdK h a b z d := by
  unfold wdK
  rw [putK_miss (by decide +kernel) (any_later (any_later any_hit)), putK_miss (by decide +kernel) (any_later any_hit), putK_miss (by decide +kernel) any_hit, putK_hit (nin_cons (by decide +kernel) nin_nil)]
theorem wd_putP (h : Int) (a b c d z : Addr) : putK (wdK h a b c d) (.inr "passes") (.ref z) = wdK h a b c z := by
  unfold wdK
  rw [putK_miss (by decide +kernel) (any_later (any_later (any_later any_hit))), putK_miss (by decide +kernel) (any_later (any_later any_hit)), putK_miss (by decide +kernel) (any_later any_hit), putK_miss (by decide +kernel) any_hit, putK_hit nin_nil]
theorem valV_hit {k : Str} {x : V} {r : List (Key × V)} : valV ((Sum.inr k, x) :: r) (Sum.inr k : Key) = some x := valV_pos rfl
theorem valV_miss {g k : Str} {x : V} {r : List (Key × V)} (h : (g == k) = false) : valV ((Sum.inr g, x) :: r) (Sum.inr k : Key) = valV r (Sum.inr k : Key) := by
  unfold valV
  rw [List.find?_cons, kd_ne h]
theorem wd_h (h : Int) (a b c d : Addr) : valV (wdK h a b c d) (.inr "horizon") = some (.int h) := by unfold wdK; exact valV_hit
theorem wd_s (h : Int) (a b c d : Addr) : valV (wdK h a b c d) (.inr "satellites") = some (.ref a) := by unfold wdK; exact (valV_miss (by decide +kernel)).trans valV_hit
theorem wd_t (h : Int) (a b c d : Addr) : valV (wdK h a b c d) (.inr "stations") = some (.ref b) := by unfold wdK; exact (valV_miss (by decide +kernel)).trans ((valV_miss (by decide +kernel)).trans valV_hit)
theorem wd_r (h : Int) (a b c d : Addr) : valV (wdK h a b c d) (.inr "recordings") = some (.ref c) := by unfold wdK; exact (valV_miss (by decide +kernel)).trans ((valV_miss (by decide +kernel)).trans ((valV_miss (by decide +kernel)).trans valV_hit))
theorem wd_p (h : Int) (a b c d : Addr) : valV (wdK h a b c d) (.inr "passes") = some (.ref d) := by
  unfold wdK; exact (valV_miss (by decide +kernel)).trans ((valV_miss (by decide +kernel)).trans ((valV_miss (by decide +kernel)).trans ((valV_miss (by decide +kernel)).trans valV_hit)))
/-- the law's dict of a world -/
structure WdAt (K : PySem.W.Frag) (H : Hp) (wd : Addr) (W : WorldD) : Prop where
  ex : ∃ a b c d xa xb xc xd, H wd = some (.dK (wdK W.horizon a b c d)) ∧ H a = some (.lst xa) ∧ DpAll K H xa (W.sats.map satPy) ∧ H b = some (.lst xb) ∧ DpAll K H xb (W.stas.map staPy) ∧ H c = some (.lst xc) ∧ DpAll K H xc (W.recs.map recPy) ∧ H d = some (.lst xd) ∧ DpAll K H xd (W.pass.map pasPy)
theorem WdAt.same {H H' : Hp} {wd : Addr} {W : WorldD} (h : WdAt K H wd W) (s : Same H H') : WdAt K H' wd W := by
  obtain ⟨a, b, c, d, xa, xb, xc, xd, g, a1, a2, b1, b2, c1, c2, d1, d2⟩ := h.ex
  exact ⟨a, b, c, d, xa, xb, xc, xd, s _ _ g, s _ _ a1, dpAll_same s a2, s _ _ b1, dpAll_same s b2, s _ _ c1, dpAll_same s c2, s _ _ d1, dpAll_same s d2⟩
theorem sqT_updK {H : Hp} {t L : Addr} {xs : List V} {kvs : List (Key × V)} {o : HO} (h : SqT K H t xs) (e : H L = some (.dK kvs)) : SqT K (upd H L o) t xs := by
  rcases h with (h | ⟨u, h⟩) | h
  · exact .inl (.inl (by rw [upd_ne (ne_of h e (fun z => nomatch z))]; exact h))
  · exact .inl (.inr ⟨u, by rw [upd_ne (ne_of h e (fun z => nomatch z))]; exact h⟩)
  · exact .inr h
theorem dpTs_upK {H : Hp} {L : Addr} {xs : List V} {ds : List PyData} {kvs : List (Key × V)} {o : HO} (n : noLs ds) (e : H L = some (.dK kvs)) (h : DpAll K H xs ds) : DpAll K (upd H L o) xs ds := dpTs_map (fun _ _ z => sqT_updK z e) n h
/-- names by their places -/
def NamedBy {α : Type} (f : α → Str) (l : List α) : Prop := ∀ i s, l[i]? = some s → WordAt i (f s)
theorem NamedBy.nodup {α : Type} {f : α → Str} {l : List α} (h : NamedBy f l) : (l.map f).Nodup := by
  rw [List.nodup_iff_pairwise_ne, List.pairwise_iff_getElem]
  intro i j hi hj hij z
  rw [List.getElem_map, List.getElem_map] at z
  rw [List.length_map] at hi hj
  have h1 := h i _ (List.getElem?_eq_getElem hi)
  have h2 := h j _ (List.getElem?_eq_getElem hj)
  rw [z] at h1
  have := h1.inj h2
  omega
theorem NamedBy.snoc {α : Type} {f : α → Str} {l : List α} {s : α} (h : NamedBy f l) (k : WordAt l.length (f s)) : NamedBy f (l ++ [s]) := fun i t ht => by
  by_cases c : i < l.length
  · rw [List.getElem?_append_left c] at ht
    exact h i t ht
  · rw [List.getElem?_append_right (by omega)] at ht
    have e : i - l.length = 0 := by
      cases q : i - l.length with
      | zero => rfl
      | succ n => rw [q] at ht; cases ht
    rw [e] at ht
    have e2 : s = t := Option.some.inj ht
    have e3 : i = l.length := by omega
    rw [e3, ← e2]
    exact k
end
end DP
namespace DP
open PySem PySem.Spec PyProof.Rows L2
/-- what is known of a drawn world besides -/
structure WG (W : WorldD) : Prop where
  ok : WorldOk W
  h80 : W.horizon ≤ 80
  nR : W.recs.length ≤ 5
  nP : W.pass.length ≤ 5
  nT : 1 ≤ W.stas.length
  bS : NamedBy (·.name) W.sats
  bT : NamedBy (·.name) W.stas
  bR : NamedBy (·.name) W.recs
  bP : NamedBy (·.name) W.pass
  bL : ∀ s ∈ W.sats, s.level ≤ 1000
theorem noLs_sat (l : List SatD) : noLs (l.map satPy) := noLs_map noL_sat l
theorem noLs_sta (l : List StaD) : noLs (l.map staPy) := noLs_map noL_sta l
theorem noLs_rec (l : List RecD) : noLs (l.map recPy) := noLs_map noL_rec l
theorem noLs_pas (l : List PasD) : noLs (l.map pasPy) := noLs_map noL_pas l
theorem all_snoc {α : Type} {P : α → Prop} {l : List α} {a : α} (h : ∀ x ∈ l, P x) (k : P a) : ∀ x ∈ l ++ [a], P x := fun x hx => by
  rcases List.mem_append.mp hx with hx | hx
  · exact h x hx
  · rw [List.mem_singleton.mp hx]; exact k
section
variable {P : Program} {w : World} {K : PySem.W.Frag} {mg : Str → Option Value} {base : Heap}
def spWorld (K : PySem.W.Frag) : Sp := fun vs H Q _ => ∃ (a : Addr) (ns : List Int), vs = [.ref a] ∧ SqL K H a (ns.map V.int) ∧ ∀ wd H' W, H wd = none → Same H H' → WG W → WdAt K H' wd W → Q (.ref wd) H'
set_option maxHeartbeats 8000000 in
theorem d_world (B : Bt mg) (D_law_stream : DefOk P w K mg base CX0 2 "_law_stream" ["script", "first", "count"] (spStream K)) (D_law_next : DefOk P w K mg base CX0 1 "_law_next" ["stream", "many"] spNext) (D_law_word : DefOk P w K mg base CX0 2 "_law_word" ["stream", "index"] spWord)
    (D_law_satellite : DefOk P w K mg base CX0 3 "_law_satellite" ["stream", "index", "horizon"] (spGSat K)) (D_law_recording : DefOk P w K mg base CX0 3 "_law_recording" ["stream", "index", "satellites", "horizon"] (spGRec K)) (D_law_pass : DefOk P w K mg base CX0 3 "_law_pass" ["stream", "index", "satellites", "stations", "horizon"] (spGPas K))
    (A : At K mg "_law_world" s__law_world ["script"]) : DefOk P w K mg base CX0 4 "_law_world" ["script"] (spWorld K) := by
  refine A.ok sc__law_world (fun vs H Q E h => ?_) (fun f cdv A outer s H vs Q E hr h => ?_)
  · obtain ⟨a, ns, rfl, _⟩ := h
    rfl
  obtain ⟨a, ns, rfl, hS, q⟩ := h
  refine ⟨_, pss_cons (ps_set (i := 1) sc__law_world.nd rfl (Or.inr rfl) (pe_f D_law_stream (hr.mono (by omega)) pass0 (pa_cons (pv 0) (pa_cons pe_int (pa_cons pe_int pa_nil)))))
  (pss_cons (ps_set (i := 2) sc__law_world.nd rfl (Or.inr rfl) (pe_op op_add pe_int (pe_f D_law_next (hr.mono (by omega)) pass0 (pa_cons (pv 1) (pa_cons pe_int pa_nil)))))
  (C8.pss_cut (ps_if (pt_cmpR op_eq (pe_f D_law_next (hr.mono (by omega)) pass0 (pa_cons (pv 1) (pa_cons pe_int pa_nil))) pe_int (nomark _))
      (pss_one (ps_set (i := 2) sc__law_world.nd rfl (Or.inr rfl) (pe_op op_add pe_int (pe_f D_law_next (hr.mono (by omega)) pass0 (pa_cons (pv 1) (pa_cons pe_int pa_nil))))))
      (pss_nil))
  (pss_cons (ps_set (i := 3) sc__law_world.nd rfl (Or.inr rfl) (pe_op op_add (pe_op op_mod (pe_op op_fdiv (pe_f D_law_next (hr.mono (by omega)) pass0 (pa_cons (pv 1) (pa_cons pe_int pa_nil))) pe_int) pe_int) (pe_callTy (call_int1) (by rfl) B.int (by decide +kernel) (pa_cons (pe_cmpR op_gt (pe_f D_law_next (hr.mono (by omega)) pass0 (pa_cons (pv 1) (pa_cons pe_int pa_nil))) pe_int (nomark _)) pa_nil))))
  (pss_cons (ps_set (i := 4) sc__law_world.nd rfl (Or.inr rfl) (pe_op op_add pe_int (pe_op op_fdiv (pe_f D_law_next (hr.mono (by omega)) pass0 (pa_cons (pv 1) (pa_cons pe_int pa_nil))) pe_int)))
  (pss_cons (ps_set (i := 5) sc__law_world.nd rfl (Or.inl rfl) (pe_f D_law_next (hr.mono (by omega)) pass0 (pa_cons (pv 1) (pa_cons pe_int pa_nil))))
  (pss_cons (ps_set (i := 6) sc__law_world.nd rfl (Or.inl rfl) (pe_f D_law_next (hr.mono (by omega)) pass0 (pa_cons (pv 1) (pa_cons pe_int pa_nil))))
  (pss_cons (ps_set (i := 3) sc__law_world.nd rfl (Or.inr rfl) (pe_callB (call_min2 rfl) (by rfl) B.min (by decide +kernel) (pa_cons pe_int (pa_cons (pv 3) pa_nil))))
  (C8.pss_cut (ps_if (pt_cmpR op_eq (pv 3) pe_int (nomark _))
      (pss_cons (ps_set (i := 5) sc__law_world.nd rfl (Or.inl rfl) pe_int)
      (pss_one (ps_set (i := 6) sc__law_world.nd rfl (Or.inl rfl) pe_int)))
      (pss_nil))
  (pss_cons (ps_set (i := 7) sc__law_world.nd rfl (Or.inl rfl) (pe_disp (pps_cons pe_str (pv 2) (pps_cons pe_str (pe_lst pa_nil) (pps_cons pe_str (pe_lst pa_nil) (pps_cons pe_str (pe_lst pa_nil) (pps_cons pe_str (pe_lst pa_nil) pps_nil))))) (by rfl) (by rfl) (fun z => by cases z) (by decide)))
  (pss_cons (ps_dput (hu_of hr) (pv 7) pe_str (pe_lc (own := [("k", 8)])  rfl sc__law_world.nd (pi_range1 (by rfl) B.range (pa_cons (pv 3) pa_nil)) (blkOk_by (own := [("k", 8)]) (N := ["script", "stream", "horizon", "satellites", "stations", "recordings", "passes", "world", "k"]) (sc := defScope s__law_world) (by decide +kernel)) (fun _ _ _ _ _ => pg_name (i := 8) sc__law_world.nd rfl (Or.inl rfl)) (fun _ _ _ _ _ => pts_nil) (fun _ _ _ _ _ => (pe_f D_law_satellite (hr.mono (by omega)) pass0 (pa_cons (pv 1) (pa_cons (pv 8) (pa_cons (pv 2) pa_nil)))))) rfl)
  (pss_cons (ps_dput (hu_of hr) (pv 7) pe_str (pe_lc (own := [("k", 8)])  rfl sc__law_world.nd (pi_range1 (by rfl) B.range (pa_cons (pv 4) pa_nil)) (blkOk_by (own := [("k", 8)]) (N := ["script", "stream", "horizon", "satellites", "stations", "recordings", "passes", "world", "k"]) (sc := defScope s__law_world) (by decide +kernel)) (fun _ _ _ _ _ => pg_name (i := 8) sc__law_world.nd rfl (Or.inl rfl)) (fun _ _ _ _ _ => pts_nil) (fun _ _ _ _ _ => (pe_tup (pa_cons (pe_f D_law_word (hr.mono (by omega)) pass0 (pa_cons (pv 1) (pa_cons (pv 8) pa_nil))) (pa_cons (pe_op op_add pe_int (pe_op op_fdiv (pe_f D_law_next (hr.mono (by omega)) pass0 (pa_cons (pv 1) (pa_cons pe_int pa_nil))) pe_int)) (pa_cons (pe_f D_law_next (hr.mono (by omega)) pass0 (pa_cons (pv 1) (pa_cons pe_int pa_nil))) pa_nil)))))) rfl)
  (pss_cons (ps_dput (hu_of hr) (pv 7) pe_str (pe_lc (own := [("k", 8)])  rfl sc__law_world.nd (pi_range1 (by rfl) B.range (pa_cons (pv 5) pa_nil)) (blkOk_by (own := [("k", 8)]) (N := ["script", "stream", "horizon", "satellites", "stations", "recordings", "passes", "world", "k"]) (sc := defScope s__law_world) (by decide +kernel)) (fun _ _ _ _ _ => pg_name (i := 8) sc__law_world.nd rfl (Or.inl rfl)) (fun _ _ _ _ _ => pts_nil) (fun _ _ _ _ _ => (pe_f D_law_recording (hr.mono (by omega)) pass0 (pa_cons (pv 1) (pa_cons (pv 8) (pa_cons (pv 3) (pa_cons (pv 2) pa_nil))))))) rfl)
  (pss_cons (ps_dput (hu_of hr) (pv 7) pe_str (pe_lc (own := [("k", 8)])  rfl sc__law_world.nd (pi_range1 (by rfl) B.range (pa_cons (pv 6) pa_nil)) (blkOk_by (own := [("k", 8)]) (N := ["script", "stream", "horizon", "satellites", "stations", "recordings", "passes", "world", "k"]) (sc := defScope s__law_world) (by decide +kernel)) (fun _ _ _ _ _ => pg_name (i := 8) sc__law_world.nd rfl (Or.inl rfl)) (fun _ _ _ _ _ => pts_nil) (fun _ _ _ _ _ => (pe_f D_law_pass (hr.mono (by omega)) pass0 (pa_cons (pv 1) (pa_cons (pv 8) (pa_cons (pv 3) (pa_cons (pv 4) (pa_cons (pv 2) pa_nil)))))))) rfl)
  (pss_one (ps_ret (pv 7))))))))))))))))
    , ?_⟩
  refine ⟨_, rfl, a, ns, 0, 24, rfl, hS, by decide, by decide, by decide, fun st H1 hs1 _ hst => ?_⟩
  refine ⟨_, rfl, st, 41, rfl, by decide, hst, fun h0 h00 h01 => ⟨_, _, rfl, rfl, ?_⟩⟩
  refine ⟨fun σ' H' => H' = H1 ∧ ∃ h : Int, 1 ≤ h ∧ h ≤ 80 ∧ σ' = [some (.ref a), some (.ref st), some (.int h), none, none, none, none, none, none], ?_, fun σ' H' hm => ?_⟩
  · refine ⟨_, rfl, st, 8, rfl, by decide, hst, fun v v0 v1 => ⟨rfl, _, rfl, ite2 (fun c => ?_) (fun c => ?_)⟩⟩
    · exact ⟨_, rfl, st, 30, rfl, by decide, hst, fun u u0 u1 => ⟨_, _, rfl, rfl, rfl, 1 + u, by omega, by omega, rfl⟩⟩
    · exact ⟨rfl, 40 + h0, by omega, by omega, rfl⟩
  obtain ⟨rfl, h, h1, h80, rfl⟩ := hm
  refine ⟨_, rfl, st, 9, rfl, by decide, hst, fun v v0 v1 => ⟨_, _, rfl, rfl, ⟨by decide, by decide⟩, _, _, rfl, rfl, (by show (0 : Int) < 3; decide), _, rfl, st, 6, rfl, by decide, hst, fun u u0 u1 => ⟨_, _, rfl, rfl, .inr ⟨_, rfl, _, _, rfl, rfl, ?_⟩⟩⟩⟩
  obtain ⟨n0, en0⟩ : ∃ z : Int, v / 3 % 3 + (if decide (0 < u) = true then 1 else 0) = z := ⟨_, rfl⟩
  have bn0 : 0 ≤ n0 ∧ n0 ≤ 3 := by
    rw [← en0]
    split <;> omega
  refine ⟨_, rfl, st, 3, rfl, by decide, hst, fun t t0 t1 => ⟨_, _, rfl, rfl, ⟨by decide, by decide⟩, _, _, rfl, rfl, ?_⟩⟩
  refine ⟨_, rfl, st, 6, rfl, by decide, hst, fun r r0 r1 => ?_⟩
  refine ⟨_, rfl, st, 6, rfl, by decide, hst, fun p p0 p1 => ?_⟩
  refine ⟨_, rfl, _, _, rfl, ?_⟩
  obtain ⟨n, en⟩ : ∃ z : Int, (if v / 3 % 3 + (if decide (0 < u) = true then 1 else 0) < 3 then v / 3 % 3 + (if decide (0 < u) = true then 1 else 0) else 3) = z := ⟨_, rfl⟩
  have bn : 0 ≤ n ∧ n ≤ 3 := by
    rw [← en, en0]
    split <;> omega
  refine ⟨fun σ' H2 => H2 = H' ∧ ∃ r p : Int, 0 ≤ r ∧ r < 6 ∧ 0 ≤ p ∧ p < 6 ∧ (n = 0 → r = 0 ∧ p = 0) ∧ σ' = [some (.ref a), some (.ref st), some (.int h), some (.int n), some (.int (1 + t / 2)), some (.int r), some (.int p), none, none], ?_, fun σ' H2 hm => ?_⟩
  · refine ⟨_, rfl, rfl, _, rfl, ite2 (fun c => ?_) (fun c => ?_)⟩
    · refine ⟨rfl, 0, 0, by omega, by omega, by omega, by omega, fun _ => ⟨rfl, rfl⟩, ?_⟩
      rw [← en]
      rfl
    · refine ⟨rfl, r, p, by omega, by omega, by omega, by omega, fun z => absurd ?_ c, ?_⟩
      · refine decide_eq_true ?_
        show V.int (if v / 3 % 3 + (if decide (0 < u) = true then 1 else 0) < 3 then v / 3 % 3 + (if decide (0 < u) = true then 1 else 0) else 3) = V.int 0
        rw [en, z]
      · rw [← en]
        rfl
  clear en en0 bn0
  obtain ⟨rfl, r, p, r0, r1, p0, p1, hzero, rfl⟩ := hm
  -- the dict
  refine fun wd hwd => ⟨_, rfl, Nat.zero_le _, fun l1 hl1 => ⟨Nat.zero_le _, fun l2 hl2 => ⟨Nat.zero_le _, fun l3 hl3 => ⟨Nat.zero_le _, fun l4 hl4 => ?_⟩⟩⟩⟩
  have g1 := same_new hl1 (.lst [])
  have g2 := same_new hl2 (.lst [])
  have g3 := same_new hl3 (.lst [])
  have g4 := same_new hl4 (.lst [])
  have gA := g1.trans (g2.trans (g3.trans g4))
  refine ⟨gA _ _ upd_same, wdK h l1 l2 l3 l4, rfl, by show 5 ≤ 15; decide, ?_⟩
  rw [wd_merge]
  have s3 : Same H2 (upd (upd (upd (upd (upd (upd H2 wd (.dK [])) l1 (.lst [])) l2 (.lst [])) l3 (.lst [])) l4 (.lst [])) wd (.dK (wdK h l1 l2 l3 l4))) := same_at hwd ((same_new hwd _).trans gA) _
  have w3 : (upd (upd (upd (upd (upd (upd H2 wd (.dK [])) l1 (.lst [])) l2 (.lst [])) l3 (.lst [])) l4 (.lst [])) wd (.dK (wdK h l1 l2 l3 l4))) wd = some (.dK (wdK h l1 l2 l3 l4)) := upd_same
  generalize (upd (upd (upd (upd (upd (upd H2 wd (.dK [])) l1 (.lst [])) l2 (.lst [])) l3 (.lst [])) l4 (.lst [])) wd (.dK (wdK h l1 l2 l3 l4))) = H3 at s3 w3
  have hwd0 : H wd = none := hs1.free hwd
  -- satellites
  refine ⟨_, rfl, n, rfl, by omega, by omega, fun D1 hD1 => ?_⟩
  refine lc_range (lo := 0) (n := n.toNat) (fun i H' => ∃ (S : List SatD) (xs : List V), S.length = i ∧ H' D1 = some (.lst xs) ∧ xs.length = i ∧ DpAll K H' xs (S.map satPy) ∧ (∀ s ∈ S, SatOk h s ∧ s.level ≤ 1000) ∧ NamedBy (·.name) S ∧ Same H3 H')
    ⟨[], [], rfl, upd_same, rfl, .nil, fun _ z => absurd z List.not_mem_nil, fun i s z => by simp at z, same_new hD1 _⟩ (fun i H' hi hI => ?_) (fun H4 hI => ?_)
  · obtain ⟨S, xs, hl, hDD, hxl, hdp, hok, hnm, hs⟩ := hI
    refine ⟨rfl, _, rfl, _, rfl, _, rfl, st, i, h, by rw [Int.zero_add]; rfl, by omega, h1, h80, hst.same (s3.trans hs), fun x s H5 s5 ok5 nm5 dp5 lv5 => ?_⟩
    have d5 := s5 _ _ hDD
    refine ⟨xs, d5, by rw [hxl]; exact small1000 (by omega), S ++ [s], xs ++ [x], by rw [List.length_append, hl, List.length_singleton], upd_same, by rw [List.length_append, hxl, List.length_singleton], ?_, all_snoc hok ⟨ok5, lv5⟩, hnm.snoc (by rw [hl]; exact nm5), same_at hD1 (hs.trans s5) _⟩
    rw [List.map_append]
    exact dpAll_snoc (dpTs_up (noLs_sat S) d5 (dpAll_same s5 hdp)) (dpT_up (noL_sat s) d5 dp5)
  obtain ⟨S, xa, lS, dS, _, pS, okS, nmS, sS⟩ := hI
  have w4 := sS _ _ w3
  have n1 : D1 ≠ wd := ne_of dS w4 (fun z => nomatch z)
  refine ⟨_, rfl, wd, _, rfl, DPut.k (k := Sum.inr "satellites") w4 (by show 5 < sizeLine; decide), ?_⟩
  rw [wd_putS]
  have s5 : Same H2 (upd H4 wd (.dK (wdK h D1 l2 l3 l4))) := same_at hwd (s3.trans sS) _
  have w5 : (upd H4 wd (.dK (wdK h D1 l2 l3 l4))) wd = some (.dK (wdK h D1 l2 l3 l4)) := upd_same
  have a5 : (upd H4 wd (.dK (wdK h D1 l2 l3 l4))) D1 = some (.lst xa) := by rw [upd_ne n1]; exact dS
  have p5 : DpAll K (upd H4 wd (.dK (wdK h D1 l2 l3 l4))) xa (S.map satPy) := dpTs_upK (noLs_sat S) w4 pS
  generalize (upd H4 wd (.dK (wdK h D1 l2 l3 l4))) = H5 at s5 w5 a5 p5
  -- stations
  refine ⟨_, rfl, 1 + t / 2, rfl, by omega, by omega, fun D2 hD2 => ?_⟩
  refine lc_range (lo := 0) (n := (1 + t / 2).toNat) (fun i H' => ∃ (T : List StaD) (xs : List V), T.length = i ∧ H' D2 = some (.lst xs) ∧ xs.length = i ∧ DpAll K H' xs (T.map staPy) ∧ (∀ s ∈ T, StaOk s) ∧ NamedBy (·.name) T ∧ Same H5 H')
    ⟨[], [], rfl, upd_same, rfl, .nil, fun _ z => absurd z List.not_mem_nil, fun i s z => by simp at z, same_new hD2 _⟩ (fun i H' hi hI => ?_) (fun H6 hI => ?_)
  · obtain ⟨T, xs, hl, hDD, hxl, hdp, hok, hnm, hs⟩ := hI
    refine ⟨rfl, _, rfl, _, rfl, st, i, by rw [Int.zero_add]; rfl, by omega, hst.same (s5.trans hs), fun u H7 s7 nm7 => ?_⟩
    have hst7 := hst.same (s5.trans (hs.trans s7))
    refine ⟨_, rfl, st, 4, rfl, by decide, hst7, fun an an0 an1 => ⟨_, _, rfl, rfl, ⟨by decide, by decide⟩, _, _, rfl, rfl, _, rfl, st, 7, rfl, by decide, hst7, fun tu tu0 tu1 => ⟨sz3, fun x hx => ?_⟩⟩⟩
    have s8 := same_new hx (.tup [.str u, .int (1 + an / 3), .int tu])
    have d7 := s8 _ _ (s7 _ _ hDD)
    refine ⟨xs, d7, by rw [hxl]; exact small1000 (by omega), T ++ [⟨u, 1 + an / 3, tu⟩], xs ++ [.ref x], by rw [List.length_append, hl, List.length_singleton], upd_same, by rw [List.length_append, hxl, List.length_singleton], ?_, all_snoc hok ⟨nm7.ok, by show 1 ≤ 1 + an / 3 ∧ 1 + an / 3 ≤ 3; omega, by show 0 ≤ tu ∧ tu ≤ 60; omega⟩, hnm.snoc (by rw [hl]; exact nm7), same_at hD2 (hs.trans (s7.trans s8)) _⟩
    rw [List.map_append]
    exact dpAll_snoc (dpTs_up (noLs_sta T) d7 (dpAll_same s8 (dpAll_same s7 hdp))) (dpT_up (noL_sta _) d7 (.tup (SqT.of upd_same) (.cons (.str _) (.cons (.int _) (.cons (.int _) .nil)))))
  obtain ⟨T, xb, lT, dT, _, pT, okT, nmT, sT⟩ := hI
  have w6 := sT _ _ w5
  have n2 : D2 ≠ wd := ne_of dT w6 (fun z => nomatch z)
  refine ⟨_, rfl, wd, _, rfl, DPut.k (k := Sum.inr "stations") w6 (by show 5 < sizeLine; decide), ?_⟩
  rw [wd_putT]
  have s7 : Same H2 (upd H6 wd (.dK (wdK h D1 D2 l3 l4))) := same_at hwd (s5.trans sT) _
  have w7 : (upd H6 wd (.dK (wdK h D1 D2 l3 l4))) wd = some (.dK (wdK h D1 D2 l3 l4)) := upd_same
  have a7 : (upd H6 wd (.dK (wdK h D1 D2 l3 l4))) D1 = some (.lst xa) := by rw [upd_ne n1]; exact sT _ _ a5
  have p7 : DpAll K (upd H6 wd (.dK (wdK h D1 D2 l3 l4))) xa (S.map satPy) := dpTs_upK (noLs_sat S) w6 (dpAll_same sT p5)
  have b7 : (upd H6 wd (.dK (wdK h D1 D2 l3 l4))) D2 = some (.lst xb) := by rw [upd_ne n2]; exact dT
  have q7 : DpAll K (upd H6 wd (.dK (wdK h D1 D2 l3 l4))) xb (T.map staPy) := dpTs_upK (noLs_sta T) w6 pT
  generalize (upd H6 wd (.dK (wdK h D1 D2 l3 l4))) = H7 at s7 w7 a7 p7 b7 q7
  -- recordings
  refine ⟨_, rfl, r, rfl, by omega, by omega, fun D3 hD3 => ?_⟩
  refine lc_range (lo := 0) (n := r.toNat) (fun i H' => ∃ (R : List RecD) (xs : List V), R.length = i ∧ H' D3 = some (.lst xs) ∧ xs.length = i ∧ DpAll K H' xs (R.map recPy) ∧ (∀ s ∈ R, ∀ W : WorldD, W.sats.length = n.toNat → W.horizon = h → RecOk W s) ∧ NamedBy (·.name) R ∧ Same H7 H')
    ⟨[], [], rfl, upd_same, rfl, .nil, fun _ z => absurd z List.not_mem_nil, fun i s z => by simp at z, same_new hD3 _⟩ (fun i H' hi hI => ?_) (fun H8 hI => ?_)
  · obtain ⟨R, xs, hl, hDD, hxl, hdp, hok, hnm, hs⟩ := hI
    have npos : 0 < n.toNat := by
      by_cases c : n = 0
      · have := (hzero c).1
        omega
      · omega
    refine ⟨rfl, _, rfl, _, rfl, _, rfl, _, rfl, st, i, n.toNat, h, by rw [Int.zero_add, show ((n.toNat : Nat) : Int) = n by omega]; rfl, by omega, npos, h1, h80, hst.same (s7.trans hs), fun x s H9 s9 ok9 nm9 dp9 => ?_⟩
    have d9 := s9 _ _ hDD
    refine ⟨xs, d9, by rw [hxl]; exact small1000 (by omega), R ++ [s], xs ++ [x], by rw [List.length_append, hl, List.length_singleton], upd_same, by rw [List.length_append, hxl, List.length_singleton], ?_, all_snoc hok ok9, hnm.snoc (by rw [hl]; exact nm9), same_at hD3 (hs.trans s9) _⟩
    rw [List.map_append]
    exact dpAll_snoc (dpTs_up (noLs_rec R) d9 (dpAll_same s9 hdp)) (dpT_up (noL_rec s) d9 dp9)
  obtain ⟨R, xc, lR, dR, _, pR, okR, nmR, sR⟩ := hI
  have w8 := sR _ _ w7
  have n3 : D3 ≠ wd := ne_of dR w8 (fun z => nomatch z)
  refine ⟨_, rfl, wd, _, rfl, DPut.k (k := Sum.inr "recordings") w8 (by show 5 < sizeLine; decide), ?_⟩
  rw [wd_putR]
  have s9 : Same H2 (upd H8 wd (.dK (wdK h D1 D2 D3 l4))) := same_at hwd (s7.trans sR) _
  have w9 : (upd H8 wd (.dK (wdK h D1 D2 D3 l4))) wd = some (.dK (wdK h D1 D2 D3 l4)) := upd_same
  have a9 : (upd H8 wd (.dK (wdK h D1 D2 D3 l4))) D1 = some (.lst xa) := by rw [upd_ne n1]; exact sR _ _ a7
  have p9 : DpAll K (upd H8 wd (.dK (wdK h D1 D2 D3 l4))) xa (S.map satPy) := dpTs_upK (noLs_sat S) w8 (dpAll_same sR p7)
  have b9 : (upd H8 wd (.dK (wdK h D1 D2 D3 l4))) D2 = some (.lst xb) := by rw [upd_ne n2]; exact sR _ _ b7
  have q9 : DpAll K (upd H8 wd (.dK (wdK h D1 D2 D3 l4))) xb (T.map staPy) := dpTs_upK (noLs_sta T) w8 (dpAll_same sR q7)
  have c9 : (upd H8 wd (.dK (wdK h D1 D2 D3 l4))) D3 = some (.lst xc) := by rw [upd_ne n3]; exact dR
  have r9 : DpAll K (upd H8 wd (.dK (wdK h D1 D2 D3 l4))) xc (R.map recPy) := dpTs_upK (noLs_rec R) w8 pR
  generalize (upd H8 wd (.dK (wdK h D1 D2 D3 l4))) = H9 at s9 w9 a9 p9 b9 q9 c9 r9
  -- passes
  refine ⟨_, rfl, p, rfl, by omega, by omega, fun D4 hD4 => ?_⟩
  refine lc_range (lo := 0) (n := p.toNat) (fun i H' => ∃ (R : List PasD) (xs : List V), R.length = i ∧ H' D4 = some (.lst xs) ∧ xs.length = i ∧ DpAll K H' xs (R.map pasPy) ∧ (∀ s ∈ R, ∀ W : WorldD, W.sats.length = n.toNat → W.stas.length = (1 + t / 2).toNat → W.horizon = h → PasOk W s) ∧ NamedBy (·.name) R ∧ Same H9 H')
    ⟨[], [], rfl, upd_same, rfl, .nil, fun _ z => absurd z List.not_mem_nil, fun i s z => by simp at z, same_new hD4 _⟩ (fun i H' hi hI => ?_) (fun HA hI => ?_)
  · obtain ⟨R, xs, hl, hDD, hxl, hdp, hok, hnm, hs⟩ := hI
    have npos : 0 < n.toNat := by
      by_cases c : n = 0
      · have := (hzero c).2
        omega
      · omega
    refine ⟨rfl, _, rfl, _, rfl, _, rfl, _, rfl, _, rfl, st, i, n.toNat, (1 + t / 2).toNat, h, by rw [Int.zero_add, show ((n.toNat : Nat) : Int) = n by omega, show (((1 + t / 2).toNat : Nat) : Int) = 1 + t / 2 by omega]; rfl, by omega, npos, by omega, h1, h80, hst.same (s9.trans hs), fun x s HB sB okB nmB dpB => ?_⟩
    have dB := sB _ _ hDD
    refine ⟨xs, dB, by rw [hxl]; exact small1000 (by omega), R ++ [s], xs ++ [x], by rw [List.length_append, hl, List.length_singleton], upd_same, by rw [List.length_append, hxl, List.length_singleton], ?_, all_snoc hok okB, hnm.snoc (by rw [hl]; exact nmB), same_at hD4 (hs.trans sB) _⟩
    rw [List.map_append]
    exact dpAll_snoc (dpTs_up (noLs_pas R) dB (dpAll_same sB hdp)) (dpT_up (noL_pas s) dB dpB)
  obtain ⟨Q4, xd, lP, dP, _, pP, okP, nmP, sP⟩ := hI
  have wA := sP _ _ w9
  have n4 : D4 ≠ wd := ne_of dP wA (fun z => nomatch z)
  refine ⟨_, rfl, wd, _, rfl, DPut.k (k := Sum.inr "passes") wA (by show 5 < sizeLine; decide), ?_⟩
  rw [wd_putP]
  have sB : Same H2 (upd HA wd (.dK (wdK h D1 D2 D3 D4))) := same_at hwd (s9.trans sP) _
  refine ⟨_, rfl, q wd _ ⟨h, S, T, R, Q4⟩ hwd0 (hs1.trans sB) ⟨⟨⟨h1, by show h ≤ 500; omega⟩, by show S.length ≤ 3; omega, by show T.length ≤ 3; omega, by show R.length ≤ 10; omega, by show Q4.length ≤ 10; omega, nmS.nodup, nmT.nodup, nmR.nodup, nmP.nodup, fun s hs => (okS s hs).1, okT,
    fun s hs => okR s hs _ lS rfl, fun s hs => okP s hs _ lS lT rfl⟩, h80, by show R.length ≤ 5; omega, by show Q4.length ≤ 5; omega, by show 1 ≤ T.length; omega, nmS, nmT, nmR, nmP, fun s hs => (okS s hs).2⟩ ⟨D1, D2, D3, D4, xa, xb, xc, xd, upd_same, ?_, ?_, ?_, ?_, ?_, ?_, ?_, ?_⟩⟩
  · rw [upd_ne n1]; exact sP _ _ a9
  · exact dpTs_upK (noLs_sat S) wA (dpAll_same sP p9)
  · rw [upd_ne n2]; exact sP _ _ b9
  · exact dpTs_upK (noLs_sta T) wA (dpAll_same sP q9)
  · rw [upd_ne n3]; exact sP _ _ c9
  · exact dpTs_upK (noLs_rec R) wA (dpAll_same sP r9)
  · rw [upd_ne n4]; exact dP
  · exact dpTs_upK (noLs_pas Q4) wA pP
end
end DP
namespace DP
open PySem PySem.Spec PyProof.Rows L2
theorem dpAll_len {K : PySem.W.Frag} {H : Hp} : ∀ {xs : List V} {ds : List PyData}, DpAll K H xs ds → xs.length = ds.length
  | _, _, .nil => rfl
  | _, _, .cons _ t => by rw [List.length_cons, List.length_cons, dpAll_len t]
theorem dpAll_at {K : PySem.W.Frag} {H : Hp} : ∀ {xs : List V} {ds : List PyData} (i : Nat), DpAll K H xs ds → i < ds.length → ∃ x d, xs[i]? = some x ∧ ds[i]? = some d ∧ Dp K H x d
  | _, _, _, .nil, h => absurd h (Nat.not_lt_zero _)
  | _, _, 0, .cons (v := v) (d := d) a _, _ => ⟨v, d, rfl, rfl, a⟩
  | _, _, i + 1, .cons _ t, h => by
    obtain ⟨x, d, h1, h2, h3⟩ := dpAll_at i t (by rw [List.length_cons] at h; omega)
    exact ⟨x, d, by rw [List.getElem?_cons_succ]; exact h1, by rw [List.getElem?_cons_succ]; exact h2, h3⟩
end DP
namespace DP
open PySem PySem.Spec PyProof.Rows L2
abbrev s__law_lines : Stmt := topS 50
theorem sc__law_lines : FnScope ["world", "lines", "name", "numbers", "light", "words", "k", "span", "antennas", "turn", "satellite", "urgency", "station"] ["world"] (defScope s__law_lines) := ⟨rfl, rfl, rfl, by decide +kernel, rfl, by decide +kernel, by decide +kernel⟩
def flat : List (Str × Int) → List Str
  | [] => []
  | p :: r => p.1 :: num p.2 :: flat r
theorem flat_len : ∀ l : List (Str × Int), (flat l).length = 2 * l.length
  | [] => rfl
  | p :: r => by
    show (flat r).length + 1 + 1 = 2 * (r.length + 1)
    rw [flat_len r]
    omega
theorem flat_app : ∀ (l : List (Str × Int)) (p : Str × Int), flat (l ++ [p]) = flat l ++ [p.1, num p.2]
  | [], p => rfl
  | q :: r, p => by
    show q.1 :: num q.2 :: flat (r ++ [p]) = q.1 :: num q.2 :: (flat r ++ [p.1, num p.2])
    rw [flat_app r p]
theorem flat_take {l : List (Str × Int)} {i : Nat} {p : Str × Int} (h : l[i]? = some p) : flat (l.take (i + 1)) = flat (l.take i) ++ [p.1, num p.2] := by rw [take_snoc h, flat_app]
theorem lightW_app : ∀ (l : List (Int × Int)) (p : Int × Int), lightW (l ++ [p]) = lightW l ++ [num p.1, num p.2]
  | [], p => rfl
  | q :: r, p => by
    show num q.1 :: num q.2 :: lightW (r ++ [p]) = num q.1 :: num q.2 :: (lightW r ++ [num p.1, num p.2])
    rw [lightW_app r p]
theorem lightW_take {l : List (Int × Int)} {i : Nat} {p : Int × Int} (h : l[i]? = some p) : lightW (l.take (i + 1)) = lightW (l.take i) ++ [num p.1, num p.2] := by rw [take_snoc h, lightW_app]
def satKv (s : SatD) : List (Str × Int) := [("store", s.store), ("battery", s.battery), ("level", s.level), ("reserve", s.reserve), ("charge", s.charge), ("settle", s.settle)]
def recKv (r : RecD) : List (Str × Int) := [("from", r.earliest), ("to", r.latest), ("length", r.length), ("size", r.size), ("energy", r.energy)]
def recKu (r : RecD) : List (Str × Int) := [("worth", r.worth), ("rank", r.rank), ("until", r.deadline)]
def pasKv (p : PasD) : List (Str × Int) := [("room", p.room), ("energy", p.energy), ("fee", p.fee)]
theorem log_ok {n : Int} (h0 : 0 ≤ n) (h1 : n < 10000000) : n.natAbs.log2 < 1920 := by
  by_cases c : n.natAbs = 0
  · rw [c]; decide
  · refine (Nat.log2_lt c).mpr ?_
    have : n.natAbs < 2 ^ 24 := by omega
    exact Nat.lt_of_lt_of_le this (Nat.pow_le_pow_right (by decide) (by decide))
theorem num_len {n : Int} (h0 : 0 ≤ n) (h1 : n < 10000000) : (num n).length ≤ 7 := by
  rw [TL.len_tl, show TL.tl (num n) = tl (num n) from rfl, num_nat h0]
  exact numL_len7 (by omega)
theorem name_len {u : Str} (h : NameOk u) : u.length ≤ 15 := by
  obtain ⟨c, r, e, _, _, hl⟩ := h
  rw [TL.len_tl, show TL.tl u = tl u from rfl, e, List.length_cons]
  omega
theorem sum_len {ws : List Str} (h : ∀ w ∈ ws, WdOk w) : (ws.map (·.length)).sum ≤ 16 * ws.length := by
  induction ws with
  | nil => exact Nat.zero_le _
  | cons a r ih =>
    have h1 := wd_len (h a List.mem_cons_self)
    have h2 := ih fun w hw => h w (List.mem_cons_of_mem _ hw)
    rw [List.map_cons, List.sum_cons, List.length_cons]
    omega
theorem join_fits {ws : List Str} (h : ∀ w ∈ ws, WdOk w) (hl : ws.length ≤ 1015) : (ws.map (·.length)).sum + ws.length * sp.length ≤ 16777216 := by
  have h1 := sum_len h
  have h2 : sp.length = 1 := by decide +kernel
  rw [h2]
  omega
theorem row_hor (h : Int) : (Str.ofString "horizon " : Str) ++ num h = row (wHor h) := by
  refine TL.ext_tl ?_
  show tl (_ ++ _) = tl (Str.ofString "horizon" ++ sp ++ num h)
  rw [tl_app, tl_app, tl_app, show tl (Str.ofString "horizon ") = tl (Str.ofString "horizon") ++ tl sp by decide +kernel]
theorem row_sta (s : StaD) : (Str.ofString "station " : Str) ++ s.name ++ Str.ofString " antennas " ++ num s.antennas ++ Str.ofString " turn " ++ num s.turn = row (wSta s) := by
  refine TL.ext_tl ?_
  show tl _ = tl (Str.ofString "station" ++ sp ++ (s.name ++ sp ++ (Str.ofString "antennas" ++ sp ++ (num s.antennas ++ sp ++ (Str.ofString "turn" ++ sp ++ num s.turn)))))
  simp only [tl_app]
  rw [show tl (Str.ofString "station ") = tl (Str.ofString "station") ++ tl sp by decide +kernel, show tl (Str.ofString " antennas ") = tl sp ++ (tl (Str.ofString "antennas") ++ tl sp) by decide +kernel, show tl (Str.ofString " turn ") = tl sp ++ (tl (Str.ofString "turn") ++ tl sp) by decide +kernel]
  simp only [List.append_assoc]
theorem row_join (ws : List Str) : Txt.join sp ws = row ws := TL.join_eq sp ws
theorem dpAll_get {K : PySem.W.Frag} {H : Hp} {α : Type} {f : α → PyData} {xs : List V} {l : List α} {i : Nat} {x : V} (h : DpAll K H xs (l.map f)) (hx : xs[i]? = some x) : ∃ a, l[i]? = some a ∧ Dp K H x (f a) := by
  have hl := dpAll_len h
  have hi : i < xs.length := (List.getElem?_eq_some_iff.mp hx).1
  obtain ⟨y, d, h1, h2, h3⟩ := dpAll_at i h (by rw [← hl]; exact hi)
  rw [hx] at h1
  cases h1
  rw [List.getElem?_map] at h2
  cases e : l[i]? with
  | none => rw [e] at h2; cases h2
  | some a =>
    rw [e] at h2
    have ed : f a = d := Option.some.inj h2
    rw [← ed] at h3
    exact ⟨a, rfl, h3⟩
theorem dpAll_get2 {K : PySem.W.Frag} {H : Hp} {α : Type} {f : α → PyData} {xs : List V} {l : List α} {i : Nat} {a : α} (h : DpAll K H xs (l.map f)) (ha : l[i]? = some a) : ∃ x, xs[i]? = some x ∧ Dp K H x (f a) := by
  have hi : i < (l.map f).length := by
    rw [List.length_map]
    exact (List.getElem?_eq_some_iff.mp ha).1
  obtain ⟨y, d, h1, h2, h3⟩ := dpAll_at i h hi
  rw [List.getElem?_map, ha] at h2
  have ed : f a = d := Option.some.inj h2
  rw [← ed] at h3
  exact ⟨y, h1, h3⟩
theorem dp_tup {K : PySem.W.Frag} {H : Hp} {x : V} {ds : List PyData} (h : Dp K H x (.tuple ds)) : ∃ t xs, x = .ref t ∧ SqT K H t xs ∧ DpAll K H xs ds := by
  cases h with
  | tup h1 h2 => exact ⟨_, _, rfl, h1, h2⟩
theorem dp_ints {K : PySem.W.Frag} {H : Hp} : ∀ {xs : List V} {ns : List Int}, DpAll K H xs (ns.map PyData.int) → xs = ns.map V.int
  | _, [], .nil => rfl
  | _, n :: r, .cons h t => by
    cases h
    rw [dp_ints t]
    rfl
theorem dp_spans {K : PySem.W.Frag} {H : Hp} : ∀ {xs : List V} {qs : List (Int × Int)}, DpAll K H xs (qs.map spanPy) → Spans K H xs qs
  | _, [], .nil => .nil
  | _, q :: r, .cons h t => by
    refine .cons ?_ (dp_spans t)
    obtain ⟨a, xs, rfl, h1, h2⟩ := dp_tup h
    have e := dp_ints (ns := [q.1, q.2]) h2
    subst e
    exact ⟨a, rfl, h1⟩
/-- a satellite's tuple -/
theorem sat_open {K : PySem.W.Frag} {H : Hp} {x : V} {s : SatD} (h : Dp K H x (satPy s)) : ∃ t t1 t2 ls, x = .ref t ∧ SqT K H t [.str s.name, .ref t1, .ref t2] ∧ SqT K H t1 (((satKv s).map (·.2)).map V.int) ∧ SqT K H t2 ls ∧ Spans K H ls s.light := by
  obtain ⟨t, xs, rfl, h1, h2⟩ := dp_tup h
  cases h2 with
  | cons a0 h2 =>
  cases h2 with
  | cons a1 h2 =>
  cases h2 with
  | cons a2 h2 =>
  cases h2
  cases a0
  obtain ⟨t1, x1, rfl, b1, c1⟩ := dp_tup a1
  obtain ⟨t2, x2, rfl, b2, c2⟩ := dp_tup a2
  have e := dp_ints (ns := (satKv s).map (·.2)) c1
  subst e
  exact ⟨t, t1, t2, x2, rfl, h1, b1, b2, dp_spans c2⟩
theorem sta_open {K : PySem.W.Frag} {H : Hp} {x : V} {s : StaD} (h : Dp K H x (staPy s)) : ∃ t, x = .ref t ∧ SqT K H t [.str s.name, .int s.antennas, .int s.turn] := by
  obtain ⟨t, xs, rfl, h1, h2⟩ := dp_tup h
  cases h2 with
  | cons a0 h2 =>
  cases h2 with
  | cons a1 h2 =>
  cases h2 with
  | cons a2 h2 =>
  cases h2
  cases a0
  cases a1
  cases a2
  exact ⟨t, rfl, h1⟩
theorem rec_open {K : PySem.W.Frag} {H : Hp} {x : V} {s : RecD} (h : Dp K H x (recPy s)) : ∃ t t1 t2, x = .ref t ∧ SqT K H t [.str s.name, .int (s.sat : Int), .ref t1, .ref t2] ∧ SqT K H t1 (((recKv s).map (·.2)).map V.int) ∧ SqT K H t2 (((recKu s).map (·.2)).map V.int) := by
  obtain ⟨t, xs, rfl, h1, h2⟩ := dp_tup h
  cases h2 with
  | cons a0 h2 =>
  cases h2 with
  | cons a1 h2 =>
  cases h2 with
  | cons a2 h2 =>
  cases h2 with
  | cons a3 h2 =>
  cases h2
  cases a0
  cases a1
  obtain ⟨t1, x1, rfl, b1, c1⟩ := dp_tup a2
  obtain ⟨t2, x2, rfl, b2, c2⟩ := dp_tup a3
  have e := dp_ints (ns := (recKv s).map (·.2)) c1
  subst e
  have e := dp_ints (ns := (recKu s).map (·.2)) c2
  subst e
  exact ⟨t, t1, t2, rfl, h1, b1, b2⟩
theorem pas_open {K : PySem.W.Frag} {H : Hp} {x : V} {s : PasD} (h : Dp K H x (pasPy s)) : ∃ t t1 t2, x = .ref t ∧ SqT K H t [.str s.name, .int (s.sat : Int), .int (s.sta : Int), .ref t1, .ref t2] ∧ SqT K H t1 [.int s.first, .int s.fin] ∧ SqT K H t2 (((pasKv s).map (·.2)).map V.int) := by
  obtain ⟨t, xs, rfl, h1, h2⟩ := dp_tup h
  cases h2 with
  | cons a0 h2 =>
  cases h2 with
  | cons a1 h2 =>
  cases h2 with
  | cons a2 h2 =>
  cases h2 with
  | cons a3 h2 =>
  cases h2 with
  | cons a4 h2 =>
  cases h2
  cases a0
  cases a1
  cases a2
  obtain ⟨t1, x1, rfl, b1, c1⟩ := dp_tup a3
  obtain ⟨t2, x2, rfl, b2, c2⟩ := dp_tup a4
  have e := dp_ints (ns := [s.first, s.fin]) c1
  subst e
  have e := dp_ints (ns := (pasKv s).map (·.2)) c2
  subst e
  exact ⟨t, t1, t2, rfl, h1, b1, b2⟩
theorem kv_at {l : List (Str × Int)} {i : Nat} {p : Str × Int} (h : l[i]? = some p) : atI ((l.map (·.1)).map V.str) (0 + (i : Int)) = some (.str p.1) ∧ atI ((l.map (·.2)).map V.int) (0 + (i : Int)) = some (.int p.2) := by
  rw [Int.zero_add]
  exact ⟨atI_nat (by rw [List.getElem?_map, List.getElem?_map, h]; rfl), atI_nat (by rw [List.getElem?_map, List.getElem?_map, h]; rfl)⟩
def KvOk (l : List (Str × Int)) : Prop := ∀ p ∈ l, 0 ≤ p.2 ∧ p.2 < 10000000
end DP
namespace DP
open PySem PySem.Spec PyProof.Rows L2
def rStrI : List V → Hp → VK → Prop := fun xs H Q => ∃ i, xs = [.int i] ∧ i.natAbs.log2 < 1920 ∧ Q (.str (Str.ofString (toString i))) H
def tKv (K : PySem.W.Frag) (cs : TA) (j : Nat) : TS :=
  tDrop (tBM K "list" rExtend (tVar 5) (tCons (tLst (tCons (tOp (rIxL K) (tLst cs) (tVar 6)) (tCons (tCB rStrI (tCons (tOp (rIxT K) (tVar j) (tVar 6)) tNil)) tNil))) tNil))
/-- the law's variables -/
abbrev st13 (x0 x1 x2 x3 x4 x5 x6 x7 x8 x9 x10 x11 x12 : Option V) : L2.St := [x0, x1, x2, x3, x4, x5, x6, x7, x8, x9, x10, x11, x12]
theorem sz2_ : 2 ≤ sizeLine := Nat.le_trans (by decide : 2 ≤ 1000) (Nat.le_of_lt (small1000 (Nat.le_refl _)))
theorem kv_run {K : PySem.W.Frag} {cs : TA} {j : Nat} {l : List (Str × Int)} {n : Int} {t1 wa : Addr} {ws : List Str} {H0 H1 : Hp} {D : Ends} {x0 x1 x2 x3 x4 x6 x7 x8 x9 x10 x11 x12 : Option V}
    (hn : n = (l.length : Int)) (hcs : ∀ σ H Q, Q ((l.map (·.1)).map V.str) H → cs σ H Q) (hl : l.length ≤ 10) (hok : KvOk l)
    (n0 : H0 wa = none) (hs : Same H0 H1) (hw : H1 wa = some (.lst (ws.map V.str))) (hb : ws.length ≤ 900) (h1 : SqT K H0 t1 ((l.map (·.2)).map V.int))
    (hj : ∀ y H Q, Q (V.ref t1) H → tVar j (st13 x0 x1 x2 x3 x4 (some (.ref wa)) y x7 x8 x9 x10 x11 x12) H Q)
    (q : ∀ y H2, Same H0 H2 → H2 wa = some (.lst ((ws ++ flat l).map V.str)) → D.nx (st13 x0 x1 x2 x3 x4 (some (.ref wa)) y x7 x8 x9 x10 x11 x12) H2) :
    tFor (iRng1 (tCons (tC (V.int n)) tNil)) (gName 6) (tKv K cs j) D (st13 x0 x1 x2 x3 x4 (some (.ref wa)) x6 x7 x8 x9 x10 x11 x12) H1 := by
  subst hn
  refine ⟨_, rfl, by omega, by omega, for_range (n := (l.length : Int).toNat) (fun i σ H' => ∃ y, σ = st13 x0 x1 x2 x3 x4 (some (.ref wa)) y x7 x8 x9 x10 x11 x12 ∧ Same H0 H' ∧ H' wa = some (.lst ((ws ++ flat (l.take i)).map V.str)))
    ⟨x6, rfl, hs, by rw [List.take_zero]; show _ = some (HO.lst ((ws ++ []).map V.str)); rw [List.append_nil]; exact hw⟩ (fun i σ H' hi hI => ?_) (fun σ H' hI => ?_)⟩
  · obtain ⟨y, rfl, hs', hw'⟩ := hI
    have hi' : i < l.length := by omega
    have hp : l[i]? = some l[i] := List.getElem?_eq_getElem hi'
    obtain ⟨k1, k2⟩ := kv_at hp
    have hk := hok _ (List.mem_of_getElem? hp)
    refine ⟨_, rfl, .inl ⟨rfl, _, SqL.of hw'⟩, hcs _ _ _ ⟨?_, fun p hp1 => ⟨_, rfl, p, _, _, _, rfl, rfl, SqL.of upd_same, k1, ?_⟩⟩⟩
    · rw [List.length_map, List.length_map]; exact small (by omega)
    · dsimp only [tCons, tCB, tOp]
      refine hj (some (V.int (0 + (i : Int)))) _ _ ⟨_, rfl, t1, _, _, _, rfl, rfl, Same.tup (hs'.trans (same_new hp1 _)) h1, k2, _, rfl, log_ok hk.1 hk.2, sz2_, fun b hb1 => ?_⟩
      have nb : wa ≠ b := ne_of_none (same_new hp1 _ _ _ hw') hb1
      have hwb := (same_new hb1 (.lst [.str (l[i]).1, .str (Str.ofString (toString (l[i]).2))])) _ _ (same_new hp1 (.lst ((l.map (·.1)).map V.str)) _ _ hw')
      refine ⟨wa, b, _, _, rfl, rfl, hwb, upd_same, ?_, ?_⟩
      · rw [List.length_map, List.length_append, flat_len, List.length_take]
        exact small (by show _ + 2 ≤ _; omega)
      · refine ⟨_, rfl, same_at n0 (hs'.trans ((same_new hp1 _).trans (same_new hb1 _))) _, ?_⟩
        rw [upd_same, flat_take hp, ← List.append_assoc, List.map_append (l₁ := ws ++ flat (l.take i))]
        rfl
  · obtain ⟨y, rfl, hs', hw'⟩ := hI
    have e : (l.length : Int).toNat = l.length := by omega
    rw [e, List.take_length] at hw'
    exact q y H' hs' hw'
end DP
namespace DP
open PySem PySem.Spec PyProof.Rows L2
def tLight (K : PySem.W.Frag) : TS :=
  tDrop (tBM K "list" rExtend (tVar 5) (tCons (tLst (tCons (tCB rStrI (tCons (tOp (rIxT K) (tVar 7) (tC (V.int 0))) tNil)) (tCons (tCB rStrI (tCons (tOp (rIxT K) (tVar 7) (tC (V.int 1))) tNil)) tNil))) tNil))
theorem light_run {K : PySem.W.Frag} {l : List (Int × Int)} {ls : List V} {t2 wa : Addr} {ws : List Str} {H0 H1 : Hp} {D : Ends} {x0 x1 x2 x3 x6 x7 x8 x9 x10 x11 x12 : Option V}
    (hl : l.length ≤ 500) (hok : ∀ p ∈ l, (0 ≤ p.1 ∧ p.1 < 10000000) ∧ 0 ≤ p.2 ∧ p.2 < 10000000)
    (n0 : H0 wa = none) (hs : Same H0 H1) (hw : H1 wa = some (.lst (ws.map V.str))) (hb : ws.length ≤ 15) (h2 : SqT K H0 t2 ls) (h3 : Spans K H0 ls l) (hz : 2 * l.length + 15 ≤ 1000)
    (q : ∀ y H2, Same H0 H2 → H2 wa = some (.lst ((ws ++ lightW l).map V.str)) → D.nx (st13 x0 x1 x2 x3 (some (.ref t2)) (some (.ref wa)) x6 y x8 x9 x10 x11 x12) H2) :
    tFor (iTup K (tVar 4)) (gName 7) (tLight K) D (st13 x0 x1 x2 x3 (some (.ref t2)) (some (.ref wa)) x6 x7 x8 x9 x10 x11 x12) H1 := by
  have hlen := paired_len h3
  refine ⟨_, rfl, t2, rfl, ⟨_, Same.tup hs h2⟩, for_tup (K := K) (a := t2) (xs := ls) (fun i σ H' => ∃ y, σ = st13 x0 x1 x2 x3 (some (.ref t2)) (some (.ref wa)) x6 y x8 x9 x10 x11 x12 ∧ Same H0 H' ∧ H' wa = some (.lst ((ws ++ lightW (l.take i)).map V.str)))
    ⟨x7, rfl, hs, by rw [List.take_zero]; show _ = some (HO.lst ((ws ++ []).map V.str)); rw [List.append_nil]; exact hw⟩ (fun i σ H' _ hI => ?_) (fun i x σ H' hx hI => ?_) (fun σ H' hI => ?_)⟩
  · obtain ⟨y, rfl, hs', hw'⟩ := hI
    exact Same.tup hs' h2
  · obtain ⟨y, rfl, hs', hw'⟩ := hI
    obtain ⟨p, hp, t, rfl, ht⟩ := paired_at h3 hx
    have hi' : i < l.length := (List.getElem?_eq_some_iff.mp hp).1
    have hk := hok _ (List.mem_of_getElem? hp)
    have ht' := Same.tup hs' ht
    refine ⟨_, rfl, .inl ⟨rfl, _, SqL.of hw'⟩, _, rfl, t, _, 0, _, rfl, rfl, ht', rfl, _, rfl, log_ok hk.1.1 hk.1.2, _, rfl, t, _, 1, _, rfl, rfl, ht', rfl, _, rfl, log_ok hk.2.1 hk.2.2, sz2_, fun b hb1 => ?_⟩
    have nb : wa ≠ b := ne_of_none hw' hb1
    have hwb := (same_new hb1 (.lst [.str (Str.ofString (toString p.1)), .str (Str.ofString (toString p.2))])) _ _ hw'
    refine ⟨wa, b, _, _, rfl, rfl, hwb, upd_same, ?_, ?_⟩
    · rw [List.length_map, List.length_append, lightW_len, List.length_take]
      exact small (by show _ + 2 ≤ _; omega)
    · refine ⟨_, rfl, same_at n0 (hs'.trans (same_new hb1 _)) _, ?_⟩
      rw [upd_same, lightW_take hp, ← List.append_assoc, List.map_append (l₁ := ws ++ lightW (l.take i))]
      rfl
  · obtain ⟨y, rfl, hs', hw'⟩ := hI
    rw [hlen, List.take_length] at hw'
    exact q y H' hs' hw'
theorem lights_lt {h : Int} (hh : h ≤ 80) : ∀ {l : List (Int × Int)} {a : Int}, 0 ≤ a → LightOk a h l → ∀ p ∈ l, (0 ≤ p.1 ∧ p.1 < 10000000) ∧ 0 ≤ p.2 ∧ p.2 < 10000000
  | [], _, _, _, p, hp => absurd hp List.not_mem_nil
  | q :: r, a, ha, ⟨h1, h2, h3, h4⟩, p, hp => by
    rcases List.mem_cons.mp hp with rfl | hp
    · exact ⟨⟨by omega, by omega⟩, by omega, by omega⟩
    · exact lights_lt hh (by omega) h4 p hp
theorem satKv_ok {h : Int} {s : SatD} (ok : SatOk h s) : KvOk (satKv s) := fun p hp => by
  obtain ⟨_, a1, a2, a3, a4, a5, a6, _⟩ := ok
  simp only [satKv, List.mem_cons, List.not_mem_nil, or_false] at hp
  rcases hp with rfl | rfl | rfl | rfl | rfl | rfl <;> dsimp only <;> omega
theorem recKv_ok {W : WorldD} {s : RecD} (hh : W.horizon ≤ 80) (ok : RecOk W s) : KvOk (recKv s) := fun p hp => by
  obtain ⟨_, _, a1, a2, a3, a4, a5, a6, a7, a8⟩ := ok
  simp only [recKv, List.mem_cons, List.not_mem_nil, or_false] at hp
  rcases hp with rfl | rfl | rfl | rfl | rfl <;> dsimp only <;> omega
theorem recKu_ok {W : WorldD} {s : RecD} (hh : W.horizon ≤ 80) (ok : RecOk W s) : KvOk (recKu s) := fun p hp => by
  obtain ⟨_, _, a1, a2, a3, a4, a5, a6, a7, a8⟩ := ok
  simp only [recKu, List.mem_cons, List.not_mem_nil, or_false] at hp
  rcases hp with rfl | rfl | rfl <;> dsimp only <;> omega
theorem pasKv_ok {W : WorldD} {s : PasD} (ok : PasOk W s) : KvOk (pasKv s) := fun p hp => by
  obtain ⟨_, _, _, a1, a2, a3, a4, a5⟩ := ok
  simp only [pasKv, List.mem_cons, List.not_mem_nil, or_false] at hp
  rcases hp with rfl | rfl | rfl <;> dsimp only <;> omega
theorem add_fits {a b : Str} {m n : Nat} (ha : a.length ≤ m) (hb : b.length ≤ n) (h : m + n ≤ 1000) : a.length + b.length ≤ sizeLine := small (by omega)
theorem len_add {a b : Str} {m n : Nat} (ha : a.length ≤ m) (hb : b.length ≤ n) : (a ++ b).length ≤ m + n := by
  rw [TL.len_tl] at ha hb ⊢
  rw [show TL.tl (a ++ b) = TL.tl a ++ TL.tl b from tl_app a b, List.length_append]
  omega
theorem sz4_ : 4 ≤ sizeLine := Nat.le_trans (by decide : 4 ≤ 1000) (Nat.le_of_lt (small1000 (Nat.le_refl _)))
theorem sz6_ : 6 ≤ sizeLine := Nat.le_trans (by decide : 6 ≤ 1000) (Nat.le_of_lt (small1000 (Nat.le_refl _)))
theorem sz10_ : 10 ≤ sizeLine := Nat.le_trans (by decide : 10 ≤ 1000) (Nat.le_of_lt (small1000 (Nat.le_refl _)))
theorem satN_of {W : WorldD} {i : Nat} {s : SatD} (h : W.sats[i]? = some s) : satN W i = s.name := by
  unfold satN
  rw [List.getElem?_map, h]
  rfl
theorem staN_of {W : WorldD} {i : Nat} {s : StaD} (h : W.stas[i]? = some s) : staN W i = s.name := by
  unfold staN
  rw [List.getElem?_map, h]
  rfl
theorem get_h {H : Hp} {wd : Addr} {h : Int} {a b c d : Addr} (g : H wd = some (.dK (wdK h a b c d))) : DGet H wd (.str "horizon") (some (.int h)) := by
  have := DGet.k (k := Sum.inr "horizon") g
  rw [wd_h] at this
  exact this
theorem get_s {H : Hp} {wd : Addr} {h : Int} {a b c d : Addr} (g : H wd = some (.dK (wdK h a b c d))) : DGet H wd (.str "satellites") (some (.ref a)) := by
  have := DGet.k (k := Sum.inr "satellites") g
  rw [wd_s] at this
  exact this
theorem get_t {H : Hp} {wd : Addr} {h : Int} {a b c d : Addr} (g : H wd = some (.dK (wdK h a b c d))) : DGet H wd (.str "stations") (some (.ref b)) := by
  have := DGet.k (k := Sum.inr "stations") g
  rw [wd_t] at this
  exact this
theorem get_r {H : Hp} {wd : Addr} {h : Int} {a b c d : Addr} (g : H wd = some (.dK (wdK h a b c d))) : DGet H wd (.str "recordings") (some (.ref c)) := by
  have := DGet.k (k := Sum.inr "recordings") g
  rw [wd_r] at this
  exact this
theorem get_p {H : Hp} {wd : Addr} {h : Int} {a b c d : Addr} (g : H wd = some (.dK (wdK h a b c d))) : DGet H wd (.str "passes") (some (.ref d)) := by
  have := DGet.k (k := Sum.inr "passes") g
  rw [wd_p] at this
  exact this
theorem app_step {α : Type} {dk : List (List Str)} {f : α → List Str} {l : List α} {i : Nat} {x : α} (h : l[i]? = some x) : (((dk ++ (l.take i).map f).map row).map V.str) ++ [V.str (row (f x))] = ((dk ++ (l.take (i + 1)).map f).map row).map V.str := by
  rw [take_snoc h]
  simp only [List.map_append, List.map_cons, List.map_nil, List.append_assoc]
theorem app_zero {α : Type} {dk : List (List Str)} {f : α → List Str} {l : List α} : ((dk ++ (l.take 0).map f).map row).map V.str = (dk.map row).map V.str := by
  rw [List.take_zero, List.map_nil, List.append_nil]
theorem app_len {α : Type} {dk : List (List Str)} {f : α → List Str} {l : List α} {i n : Nat} (hd : dk.length ≤ n) (hl : l.length ≤ 20) (hn : n ≤ 60) : (((dk ++ (l.take i).map f).map row).map V.str).length < sizeLine := by
  rw [List.length_map, List.length_map, List.length_append, List.length_map, List.length_take]
  exact small1000 (by omega)
def done1 (W : WorldD) : List (List Str) := [wHor W.horizon] ++ W.sats.map wSat
def done2 (W : WorldD) : List (List Str) := done1 W ++ W.stas.map wSta
def done3 (W : WorldD) : List (List Str) := done2 W ++ W.recs.map (wRec W)
def done4 (W : WorldD) : List (List Str) := done3 W ++ W.pass.map (wPas W)
theorem done4_eq (W : WorldD) : done4 W = linesW W := by
  show [wHor W.horizon] ++ W.sats.map wSat ++ W.stas.map wSta ++ W.recs.map (wRec W) ++ W.pass.map (wPas W) = _
  unfold linesW
  simp only [List.append_assoc, List.cons_append, List.nil_append]
theorem wSat_eq (s : SatD) : [Str.ofString "satellite", s.name] ++ flat (satKv s) ++ [Str.ofString "light"] ++ lightW s.light = wSat s := rfl
theorem wRec_eq (W : WorldD) (r : RecD) : [Str.ofString "recording", r.name, Str.ofString "by", satN W r.sat] ++ flat (recKv r) ++ flat (recKu r) = wRec W r := rfl
theorem wPas_eq (W : WorldD) (p : PasD) : [Str.ofString "pass", p.name, Str.ofString "by", satN W p.sat, Str.ofString "over", staN W p.sta] ++ [Str.ofString "from", num p.first, Str.ofString "to", num p.fin] ++ flat (pasKv p) = wPas W p := rfl
theorem join_sp (ws : List Str) : Txt.join (Str.ofString " ") ws = row ws := row_join ws
end DP
namespace DP
open PySem PySem.Spec PyProof.Rows L2
section
variable {P : Program} {w : World} {K : PySem.W.Frag} {mg : Str → Option Value} {base : Heap}
def spLawLines (K : PySem.W.Frag) : Sp := fun vs H Q _ => ∃ (wd : Addr) (W : WorldD), vs = [.ref wd] ∧ WG W ∧ WdAt K H wd W ∧ ∀ L H', Same H H' → H L = none → H' L = some (.lst (((linesW W).map row).map V.str)) → Q (.ref L) H'
set_option maxHeartbeats 8000000 in
theorem d_law_lines (B : Bt mg) (A : At K mg "_law_lines" s__law_lines ["world"]) : DefOk P w K mg base CX0 1 "_law_lines" ["world"] (spLawLines K) := by
  refine A.ok sc__law_lines (fun vs H Q E h => ?_) (fun f cdv A outer s H vs Q E hr h => ?_)
  · obtain ⟨a, ns, rfl, _⟩ := h
    rfl
  obtain ⟨wd, W, rfl, wg, hwd, q⟩ := h
  obtain ⟨a, b, c, d, xa, xb, xc, xd, g, a1, a2, b1, b2, c1, c2, d1, d2⟩ := hwd.ex
  refine ⟨_, pss_cons (ps_set (i := 1) sc__law_lines.nd rfl (Or.inl rfl) (pe_lst (pa_cons (pe_op op_add_str pe_str (pe_callTy (call_str_int) (by rfl) B.str (by decide +kernel) (pa_cons (pe_dget (hu_of hr) (pv 0) pe_str (fun _ _ => rfl)) pa_nil))) pa_nil)))
  (pss_cons (ps_for PassesOwn.never rfl (pi_list (pe_dget (hu_of hr) (pv 0) pe_str (fun _ _ => rfl))) (pg_tup (by rfl) (pgs_cons (pg_name (i := 2) sc__law_lines.nd rfl (Or.inl rfl)) (pgs_cons (pg_name (i := 3) sc__law_lines.nd rfl (Or.inl rfl)) (pgs_cons (pg_name (i := 4) sc__law_lines.nd rfl (Or.inl rfl)) (pgs_nil)))))
      (pss_cons (ps_set (i := 5) sc__law_lines.nd rfl (Or.inl rfl) (pe_lst (pa_cons pe_str (pa_cons (pv 2) pa_nil))))
      (pss_cons (ps_for PassesOwn.never rfl (pi_range1 (by rfl) B.range (pa_cons pe_int pa_nil)) (pg_name (i := 6) sc__law_lines.nd rfl (Or.inl rfl))
          (pss_one (ps_expr (pe_bm PySem.F.plainAttrs_list PySem.F.slot_list_extend PySem.F.type_list_extend mt_extend (pv 5) (pa_cons (pe_lst (pa_cons (pe_ix ix_list (pe_lst (pa_cons pe_str (pa_cons pe_str (pa_cons pe_str (pa_cons pe_str (pa_cons pe_str (pa_cons pe_str pa_nil))))))) (pv 6) (fun _ _ => rfl)) (pa_cons (pe_callTy (call_str_int) (by rfl) B.str (by decide +kernel) (pa_cons (pe_ix ix_tup (pv 3) (pv 6) (fun _ _ => rfl)) pa_nil)) pa_nil))) pa_nil)))))
      (pss_cons (ps_expr (pe_bm PySem.F.plainAttrs_list PySem.F.slot_list_append PySem.F.type_list_append mt_append (pv 5) (pa_cons pe_str pa_nil)))
      (pss_cons (ps_for PassesOwn.never rfl (pi_tup (pv 4)) (pg_name (i := 7) sc__law_lines.nd rfl (Or.inl rfl))
          (pss_one (ps_expr (pe_bm PySem.F.plainAttrs_list PySem.F.slot_list_extend PySem.F.type_list_extend mt_extend (pv 5) (pa_cons (pe_lst (pa_cons (pe_callTy (call_str_int) (by rfl) B.str (by decide +kernel) (pa_cons (pe_ix ix_tup (pv 7) pe_int (fun _ _ => rfl)) pa_nil)) (pa_cons (pe_callTy (call_str_int) (by rfl) B.str (by decide +kernel) (pa_cons (pe_ix ix_tup (pv 7) pe_int (fun _ _ => rfl)) pa_nil)) pa_nil))) pa_nil)))))
      (pss_one (ps_expr (pe_bm PySem.F.plainAttrs_list PySem.F.slot_list_append PySem.F.type_list_append mt_append (pv 1) (pa_cons (pe_join pe_str (pv 5)) pa_nil)))))))))
  (pss_cons (ps_for PassesOwn.never rfl (pi_list (pe_dget (hu_of hr) (pv 0) pe_str (fun _ _ => rfl))) (pg_tup (by rfl) (pgs_cons (pg_name (i := 2) sc__law_lines.nd rfl (Or.inl rfl)) (pgs_cons (pg_name (i := 8) sc__law_lines.nd rfl (Or.inl rfl)) (pgs_cons (pg_name (i := 9) sc__law_lines.nd rfl (Or.inl rfl)) (pgs_nil)))))
      (pss_one (ps_expr (pe_bm PySem.F.plainAttrs_list PySem.F.slot_list_append PySem.F.type_list_append mt_append (pv 1) (pa_cons (pe_op op_add_str (pe_op op_add_str (pe_op op_add_str (pe_op op_add_str (pe_op op_add_str pe_str (pv 2)) pe_str) (pe_callTy (call_str_int) (by rfl) B.str (by decide +kernel) (pa_cons (pv 8) pa_nil))) pe_str) (pe_callTy (call_str_int) (by rfl) B.str (by decide +kernel) (pa_cons (pv 9) pa_nil))) pa_nil)))))
  (pss_cons (ps_for PassesOwn.never rfl (pi_list (pe_dget (hu_of hr) (pv 0) pe_str (fun _ _ => rfl))) (pg_tup (by rfl) (pgs_cons (pg_name (i := 2) sc__law_lines.nd rfl (Or.inl rfl)) (pgs_cons (pg_name (i := 10) sc__law_lines.nd rfl (Or.inl rfl)) (pgs_cons (pg_name (i := 3) sc__law_lines.nd rfl (Or.inl rfl)) (pgs_cons (pg_name (i := 11) sc__law_lines.nd rfl (Or.inl rfl)) (pgs_nil))))))
      (pss_cons (ps_set (i := 5) sc__law_lines.nd rfl (Or.inl rfl) (pe_lst (pa_cons pe_str (pa_cons (pv 2) (pa_cons pe_str (pa_cons (pe_ix ix_tup (pe_ix ix_list (pe_dget (hu_of hr) (pv 0) pe_str (fun _ _ => rfl)) (pv 10) (fun _ _ => rfl)) pe_int (fun _ _ => rfl)) pa_nil))))))
      (pss_cons (ps_for PassesOwn.never rfl (pi_range1 (by rfl) B.range (pa_cons pe_int pa_nil)) (pg_name (i := 6) sc__law_lines.nd rfl (Or.inl rfl))
          (pss_one (ps_expr (pe_bm PySem.F.plainAttrs_list PySem.F.slot_list_extend PySem.F.type_list_extend mt_extend (pv 5) (pa_cons (pe_lst (pa_cons (pe_ix ix_list (pe_lst (pa_cons pe_str (pa_cons pe_str (pa_cons pe_str (pa_cons pe_str (pa_cons pe_str pa_nil)))))) (pv 6) (fun _ _ => rfl)) (pa_cons (pe_callTy (call_str_int) (by rfl) B.str (by decide +kernel) (pa_cons (pe_ix ix_tup (pv 3) (pv 6) (fun _ _ => rfl)) pa_nil)) pa_nil))) pa_nil)))))
      (pss_cons (ps_for PassesOwn.never rfl (pi_range1 (by rfl) B.range (pa_cons pe_int pa_nil)) (pg_name (i := 6) sc__law_lines.nd rfl (Or.inl rfl))
          (pss_one (ps_expr (pe_bm PySem.F.plainAttrs_list PySem.F.slot_list_extend PySem.F.type_list_extend mt_extend (pv 5) (pa_cons (pe_lst (pa_cons (pe_ix ix_list (pe_lst (pa_cons pe_str (pa_cons pe_str (pa_cons pe_str pa_nil)))) (pv 6) (fun _ _ => rfl)) (pa_cons (pe_callTy (call_str_int) (by rfl) B.str (by decide +kernel) (pa_cons (pe_ix ix_tup (pv 11) (pv 6) (fun _ _ => rfl)) pa_nil)) pa_nil))) pa_nil)))))
      (pss_one (ps_expr (pe_bm PySem.F.plainAttrs_list PySem.F.slot_list_append PySem.F.type_list_append mt_append (pv 1) (pa_cons (pe_join pe_str (pv 5)) pa_nil))))))))
  (pss_cons (ps_for PassesOwn.never rfl (pi_list (pe_dget (hu_of hr) (pv 0) pe_str (fun _ _ => rfl))) (pg_tup (by rfl) (pgs_cons (pg_name (i := 2) sc__law_lines.nd rfl (Or.inl rfl)) (pgs_cons (pg_name (i := 10) sc__law_lines.nd rfl (Or.inl rfl)) (pgs_cons (pg_name (i := 12) sc__law_lines.nd rfl (Or.inl rfl)) (pgs_cons (pg_name (i := 7) sc__law_lines.nd rfl (Or.inl rfl)) (pgs_cons (pg_name (i := 3) sc__law_lines.nd rfl (Or.inl rfl)) (pgs_nil)))))))
      (pss_cons (ps_set (i := 5) sc__law_lines.nd rfl (Or.inl rfl) (pe_lst (pa_cons pe_str (pa_cons (pv 2) (pa_cons pe_str (pa_cons (pe_ix ix_tup (pe_ix ix_list (pe_dget (hu_of hr) (pv 0) pe_str (fun _ _ => rfl)) (pv 10) (fun _ _ => rfl)) pe_int (fun _ _ => rfl)) (pa_cons pe_str (pa_cons (pe_ix ix_tup (pe_ix ix_list (pe_dget (hu_of hr) (pv 0) pe_str (fun _ _ => rfl)) (pv 12) (fun _ _ => rfl)) pe_int (fun _ _ => rfl)) pa_nil))))))))
      (pss_cons (ps_expr (pe_bm PySem.F.plainAttrs_list PySem.F.slot_list_extend PySem.F.type_list_extend mt_extend (pv 5) (pa_cons (pe_lst (pa_cons pe_str (pa_cons (pe_callTy (call_str_int) (by rfl) B.str (by decide +kernel) (pa_cons (pe_ix ix_tup (pv 7) pe_int (fun _ _ => rfl)) pa_nil)) (pa_cons pe_str (pa_cons (pe_callTy (call_str_int) (by rfl) B.str (by decide +kernel) (pa_cons (pe_ix ix_tup (pv 7) pe_int (fun _ _ => rfl)) pa_nil)) pa_nil))))) pa_nil)))
      (pss_cons (ps_for PassesOwn.never rfl (pi_range1 (by rfl) B.range (pa_cons pe_int pa_nil)) (pg_name (i := 6) sc__law_lines.nd rfl (Or.inl rfl))
          (pss_one (ps_expr (pe_bm PySem.F.plainAttrs_list PySem.F.slot_list_extend PySem.F.type_list_extend mt_extend (pv 5) (pa_cons (pe_lst (pa_cons (pe_ix ix_list (pe_lst (pa_cons pe_str (pa_cons pe_str (pa_cons pe_str pa_nil)))) (pv 6) (fun _ _ => rfl)) (pa_cons (pe_callTy (call_str_int) (by rfl) B.str (by decide +kernel) (pa_cons (pe_ix ix_tup (pv 3) (pv 6) (fun _ _ => rfl)) pa_nil)) pa_nil))) pa_nil)))))
      (pss_one (ps_expr (pe_bm PySem.F.plainAttrs_list PySem.F.slot_list_append PySem.F.type_list_append mt_append (pv 1) (pa_cons (pe_join pe_str (pv 5)) pa_nil))))))))
  (pss_one (ps_ret (pv 1)))))))
    , ?_⟩
  have h80 := wg.h80
  have ho := wg.ok.horizon
  refine ⟨_, rfl, wd, _, rfl, get_h g, _, rfl, log_ok (by omega) (by omega), _, _, rfl, rfl, ?_⟩
  refine ⟨by have := num_len (n := W.horizon) (by omega) (by omega); have e : (Str.ofString "horizon ").length = 8 := (by decide +kernel); exact small (by show (Str.ofString "horizon ").length + (num W.horizon).length ≤ 1000; omega), Nat.le_trans (by decide : 1 ≤ 1000) (Nat.le_of_lt (small1000 (Nat.le_refl _))), fun L hL => ?_⟩
  have eL : (upd H L (.lst [.str ((Str.ofString "horizon " : Str) ++ Str.ofString (toString W.horizon))])) L = some (.lst (([wHor W.horizon].map row).map V.str)) := by
    rw [upd_same]
    show some (HO.lst [V.str ((Str.ofString "horizon " : Str) ++ num W.horizon)]) = _
    rw [row_hor]
    rfl
  have s1 := same_new hL (.lst [.str ((Str.ofString "horizon " : Str) ++ Str.ofString (toString W.horizon))])
  generalize (upd H L (.lst [.str ((Str.ofString "horizon " : Str) ++ Str.ofString (toString W.horizon))])) = H1 at eL s1
  -- satellites
  refine ⟨_, rfl, wd, _, rfl, get_s (s1 _ _ g), a, rfl, ⟨_, SqL.of (s1 _ _ a1)⟩, for_list (K := K) (a := a) (xs := xa) (fun i σ H' => ∃ y2 y3 y4 y5 y6 y7, σ = st13 (some (.ref wd)) (some (.ref L)) y2 y3 y4 y5 y6 y7 none none none none none ∧ Same H H' ∧ H' L = some (.lst ((([wHor W.horizon] ++ (W.sats.take i).map wSat).map row).map V.str)))
    ⟨none, none, none, none, none, none, rfl, s1, by rw [app_zero]; exact eL⟩ (fun i σ H' _ hI => ?_) (fun i x σ H' hx hI => ?_) (fun σ H' hI => ?_)⟩
  · obtain ⟨y2, y3, y4, y5, y6, y7, rfl, hs, hLL⟩ := hI
    exact SqL.of (hs _ _ a1)
  · obtain ⟨y2, y3, y4, y5, y6, y7, rfl, hs, hLL⟩ := hI
    obtain ⟨z, hz, hd⟩ := dpAll_get a2 hx
    have ok := wg.ok.sats z (List.mem_of_getElem? hz)
    obtain ⟨t, t1, t2, ls, rfl, k1, k2, k3, k4⟩ := sat_open hd
    have k1 := Same.tup hs k1
    have k2 := Same.tup hs k2
    have k3 := Same.tup hs k3
    have k4 := k4.same hs
    refine ⟨t, _, rfl, k1, rfl, ⟨_, _, rfl, _, _, rfl, _, _, rfl, rfl, ?_⟩⟩
    refine ⟨_, rfl, sz2_, fun wa hwa => ?_⟩
    have eL2 : L ≠ wa := ne_of_none hLL hwa
    have ll := ok.light.len (by omega)
    have lb := lights_lt h80 (Int.le_refl 0) ok.light
    refine kv_run (l := satKv z) (ws := [Str.ofString "satellite", z.name]) rfl (fun _ _ _ h => h) (by show 6 ≤ 10; decide) (satKv_ok ok) hwa (same_new hwa _) upd_same (by show 2 ≤ 900; decide) k2 (fun y H Q h => ⟨_, rfl, h⟩) (fun y H2 s2 hw2 => ?_)
    refine ⟨_, rfl, .inl ⟨rfl, _, SqL.of hw2⟩, wa, _, _, rfl, rfl, hw2, (by rw [List.length_map]; exact small1000 (by show 14 ≤ 1000; decide)), ?_⟩
    refine light_run (l := z.light) (ws := [Str.ofString "satellite", z.name] ++ flat (satKv z) ++ [Str.ofString "light"]) (by omega) lb hwa (same_at hwa s2 _) (by rw [upd_same]; rfl) (by show 15 ≤ 15; decide) k3 k4 (by omega) (fun y' H3 s3 hw3 => ?_)
    have hl3 := s3 _ _ hLL
    rw [wSat_eq] at hw3
    have okw := wSat_wd ho.2 ok
    refine ⟨_, rfl, .inl ⟨rfl, _, SqL.of hl3⟩, ⟨_, rfl⟩, _, rfl, _, wa, _, rfl, rfl, .inl (SqL.of hw3), join_fits okw (by rw [← wSat_eq, List.length_append, lightW_len]; show 15 + _ ≤ _; omega), L, _, _, rfl, rfl, hl3, app_len (n := 1) (Nat.le_refl 1) (by have := wg.ok.nSats; omega) (by decide), ?_⟩
    refine ⟨_, _, _, _, _, _, rfl, same_at hL (hs.trans s3) _, ?_⟩
    rw [upd_same, join_sp, app_step hz]
  obtain ⟨y2, y3, y4, y5, y6, y7, rfl, hs1, hL1⟩ := hI
  rw [dpAll_len a2, List.length_map, List.take_length, show [wHor W.horizon] ++ W.sats.map wSat = done1 W from rfl] at hL1
  have n1 : (done1 W).length ≤ 4 := by
    show ([wHor W.horizon] ++ W.sats.map wSat).length ≤ 4
    rw [List.length_append, List.length_map]
    have := wg.ok.nSats
    show 1 + _ ≤ 4
    omega
  clear s1 eL
  -- stations
  refine ⟨_, rfl, wd, _, rfl, get_t (hs1 _ _ g), b, rfl, ⟨_, SqL.of (hs1 _ _ b1)⟩, for_list (K := K) (a := b) (xs := xb) (fun i σ H' => ∃ y2 y3 y4 y5 y6 y7 y8 y9, σ = st13 (some (.ref wd)) (some (.ref L)) y2 y3 y4 y5 y6 y7 y8 y9 none none none ∧ Same H H' ∧ H' L = some (.lst (((done1 W ++ (W.stas.take i).map wSta).map row).map V.str)))
    ⟨y2, y3, y4, y5, y6, y7, none, none, rfl, hs1, by rw [app_zero]; exact hL1⟩ (fun i σ H' _ hI => ?_) (fun i x σ H' hx hI => ?_) (fun σ H2 hI => ?_)⟩
  · obtain ⟨y2, y3, y4, y5, y6, y7, y8, y9, rfl, hs, hLL⟩ := hI
    exact SqL.of (hs _ _ b1)
  · obtain ⟨y2, y3, y4, y5, y6, y7, y8, y9, rfl, hs, hLL⟩ := hI
    obtain ⟨z, hz, hd⟩ := dpAll_get b2 hx
    have ok := wg.ok.stas z (List.mem_of_getElem? hz)
    obtain ⟨t, rfl, k1⟩ := sta_open hd
    have k1 := Same.tup hs k1
    have l1 : (Str.ofString "station " : Str).length ≤ 8 := by decide +kernel
    have l2 := len_add l1 (name_len ok.name)
    have l3 := len_add l2 (show (Str.ofString " antennas " : Str).length ≤ 10 by decide +kernel)
    have l4 := len_add l3 (num_len (n := z.antennas) (by have := ok.antennas; omega) (by have := ok.antennas; omega))
    have l5 := len_add l4 (show (Str.ofString " turn " : Str).length ≤ 6 by decide +kernel)
    have l6 := num_len (n := z.turn) (by have := ok.turn; omega) (by have := ok.turn; omega)
    refine ⟨t, _, rfl, k1, rfl, ⟨_, _, rfl, _, _, rfl, _, _, rfl, rfl, ?_⟩⟩
    refine ⟨_, rfl, .inl ⟨rfl, _, SqL.of hLL⟩, _, rfl, _, _, rfl, rfl, add_fits l1 (name_len ok.name) (by decide), _, _, rfl, rfl, add_fits l2 (show (Str.ofString " antennas " : Str).length ≤ 10 by decide +kernel) (by decide), _, rfl, _, rfl, log_ok (by have := ok.antennas; omega) (by have := ok.antennas; omega),
      _, _, rfl, rfl, add_fits l3 (num_len (n := z.antennas) (by have := ok.antennas; omega) (by have := ok.antennas; omega)) (by decide), _, _, rfl, rfl, add_fits l4 (show (Str.ofString " turn " : Str).length ≤ 6 by decide +kernel) (by decide), _, rfl, _, rfl, log_ok (by have := ok.turn; omega) (by have := ok.turn; omega), _, _, rfl, rfl, add_fits l5 l6 (by decide),
      L, _, _, rfl, rfl, hLL, app_len n1 (by have := wg.ok.nStas; omega) (by decide), ?_⟩
    refine ⟨_, _, _, _, _, _, _, _, rfl, same_at hL hs _, ?_⟩
    rw [upd_same, show (Str.ofString "station " ++ z.name ++ Str.ofString " antennas " ++ Str.ofString (toString z.antennas) ++ Str.ofString " turn " ++ Str.ofString (toString z.turn) : Str) = row (wSta z) from row_sta z, app_step hz]
  obtain ⟨y2, y3, y4, y5, y6, y7, y8, y9, rfl, hs2, hL2⟩ := hI
  rw [dpAll_len b2, List.length_map, List.take_length, show done1 W ++ W.stas.map wSta = done2 W from rfl] at hL2
  have n2 : (done2 W).length ≤ 7 := by
    show (done1 W ++ W.stas.map wSta).length ≤ 7
    rw [List.length_append, List.length_map]
    have := wg.ok.nStas
    omega
  clear hs1 hL1
  -- recordings
  refine ⟨_, rfl, wd, _, rfl, get_r (hs2 _ _ g), c, rfl, ⟨_, SqL.of (hs2 _ _ c1)⟩, for_list (K := K) (a := c) (xs := xc) (fun i σ H' => ∃ y2 y3 y4 y5 y6 y7 y8 y9 y10 y11, σ = st13 (some (.ref wd)) (some (.ref L)) y2 y3 y4 y5 y6 y7 y8 y9 y10 y11 none ∧ Same H H' ∧ H' L = some (.lst (((done2 W ++ (W.recs.take i).map (wRec W)).map row).map V.str)))
    ⟨y2, y3, y4, y5, y6, y7, y8, y9, none, none, rfl, hs2, by rw [app_zero]; exact hL2⟩ (fun i σ H' _ hI => ?_) (fun i x σ H' hx hI => ?_) (fun σ H3 hI => ?_)⟩
  · obtain ⟨y2, y3, y4, y5, y6, y7, y8, y9, y10, y11, rfl, hs, hLL⟩ := hI
    exact SqL.of (hs _ _ c1)
  · obtain ⟨y2, y3, y4, y5, y6, y7, y8, y9, y10, y11, rfl, hs, hLL⟩ := hI
    obtain ⟨z, hz, hd⟩ := dpAll_get c2 hx
    have ok := wg.ok.recs z (List.mem_of_getElem? hz)
    obtain ⟨t, t1, t2, rfl, k1, k2, k3⟩ := rec_open hd
    have k1 := Same.tup hs k1
    have k2 := Same.tup hs k2
    have k3 := Same.tup hs k3
    obtain ⟨xS, eS, dS⟩ := dpAll_get2 a2 (List.getElem?_eq_getElem ok.sat)
    obtain ⟨tS, tS1, tS2, lS, rfl, m1, _, _, _⟩ := sat_open dS
    have m1 := Same.tup hs m1
    rw [← satN_of (List.getElem?_eq_getElem ok.sat)] at m1
    refine ⟨t, _, rfl, k1, rfl, ⟨_, _, rfl, _, _, rfl, _, _, rfl, _, _, rfl, rfl, ?_⟩⟩
    refine ⟨_, rfl, _, rfl, wd, _, rfl, get_s (hs _ _ g), _, rfl, a, _, _, _, rfl, rfl, SqL.of (hs _ _ a1), atI_nat eS, tS, _, 0, _, rfl, rfl, m1, rfl, sz4_, fun wa hwa => ?_⟩
    have eL2 : L ≠ wa := ne_of_none hLL hwa
    refine kv_run (l := recKv z) (ws := [Str.ofString "recording", z.name, Str.ofString "by", satN W z.sat]) rfl (fun _ _ _ h => h) (by show 5 ≤ 10; decide) (recKv_ok h80 ok) hwa (same_new hwa _) upd_same (by show 4 ≤ 900; decide) k2 (fun y H Q h => ⟨_, rfl, h⟩) (fun y H4 s4 hw4 => ?_)
    refine kv_run (l := recKu z) (ws := [Str.ofString "recording", z.name, Str.ofString "by", satN W z.sat] ++ flat (recKv z)) rfl (fun _ _ _ h => h) (by show 3 ≤ 10; decide) (recKu_ok h80 ok) hwa s4 hw4 (by show 14 ≤ 900; decide) k3 (fun y H Q h => ⟨_, rfl, h⟩) (fun y H5 s5 hw5 => ?_)
    have hl5 := s5 _ _ hLL
    rw [wRec_eq] at hw5
    have okw := wRec_wd wg.ok ok
    refine ⟨_, rfl, .inl ⟨rfl, _, SqL.of hl5⟩, ⟨_, rfl⟩, _, rfl, _, wa, _, rfl, rfl, .inl (SqL.of hw5), join_fits okw (by show 20 ≤ 1015; decide), L, _, _, rfl, rfl, hl5, app_len n2 (by have := wg.ok.nRecs; omega) (by decide), ?_⟩
    refine ⟨_, _, _, _, _, _, _, _, _, _, rfl, same_at hL (hs.trans s5) _, ?_⟩
    rw [upd_same, join_sp, app_step hz]
  obtain ⟨y2, y3, y4, y5, y6, y7, y8, y9, y10, y11, rfl, hs3, hL3⟩ := hI
  rw [dpAll_len c2, List.length_map, List.take_length, show done2 W ++ W.recs.map (wRec W) = done3 W from rfl] at hL3
  have n3 : (done3 W).length ≤ 17 := by
    show (done2 W ++ W.recs.map (wRec W)).length ≤ 17
    rw [List.length_append, List.length_map]
    have := wg.ok.nRecs
    omega
  clear hs2 hL2
  -- passes
  refine ⟨_, rfl, wd, _, rfl, get_p (hs3 _ _ g), d, rfl, ⟨_, SqL.of (hs3 _ _ d1)⟩, for_list (K := K) (a := d) (xs := xd) (fun i σ H' => ∃ y2 y3 y4 y5 y6 y7 y8 y9 y10 y11 y12, σ = st13 (some (.ref wd)) (some (.ref L)) y2 y3 y4 y5 y6 y7 y8 y9 y10 y11 y12 ∧ Same H H' ∧ H' L = some (.lst (((done3 W ++ (W.pass.take i).map (wPas W)).map row).map V.str)))
    ⟨y2, y3, y4, y5, y6, y7, y8, y9, y10, y11, none, rfl, hs3, by rw [app_zero]; exact hL3⟩ (fun i σ H' _ hI => ?_) (fun i x σ H' hx hI => ?_) (fun σ H4 hI => ?_)⟩
  · obtain ⟨y2, y3, y4, y5, y6, y7, y8, y9, y10, y11, y12, rfl, hs, hLL⟩ := hI
    exact SqL.of (hs _ _ d1)
  · obtain ⟨y2, y3, y4, y5, y6, y7, y8, y9, y10, y11, y12, rfl, hs, hLL⟩ := hI
    obtain ⟨z, hz, hd⟩ := dpAll_get d2 hx
    have ok := wg.ok.pass z (List.mem_of_getElem? hz)
    obtain ⟨t, t1, t2, rfl, k1, k2, k3⟩ := pas_open hd
    have k1 := Same.tup hs k1
    have k2 := Same.tup hs k2
    have k3 := Same.tup hs k3
    obtain ⟨xS, eS, dS⟩ := dpAll_get2 a2 (List.getElem?_eq_getElem ok.sat)
    obtain ⟨tS, tS1, tS2, lS, rfl, m1, _, _, _⟩ := sat_open dS
    have m1 := Same.tup hs m1
    rw [← satN_of (List.getElem?_eq_getElem ok.sat)] at m1
    obtain ⟨xT, eT, dT⟩ := dpAll_get2 b2 (List.getElem?_eq_getElem ok.sta)
    obtain ⟨tT, rfl, m2⟩ := sta_open dT
    have m2 := Same.tup hs m2
    rw [← staN_of (List.getElem?_eq_getElem ok.sta)] at m2
    have f0 : 0 ≤ z.first ∧ z.first < 10000000 := by have := ok.first; omega
    have f1 : 0 ≤ z.fin ∧ z.fin < 10000000 := by have := ok.first; have := ok.fin; omega
    refine ⟨t, _, rfl, k1, rfl, ⟨_, _, rfl, _, _, rfl, _, _, rfl, _, _, rfl, _, _, rfl, rfl, ?_⟩⟩
    refine ⟨_, rfl, _, rfl, wd, _, rfl, get_s (hs _ _ g), _, rfl, a, _, _, _, rfl, rfl, SqL.of (hs _ _ a1), atI_nat eS, tS, _, 0, _, rfl, rfl, m1, rfl, _, rfl, wd, _, rfl, get_t (hs _ _ g), _, rfl, b, _, _, _, rfl, rfl, SqL.of (hs _ _ b1), atI_nat eT, tT, _, 0, _, rfl, rfl, m2, rfl, sz6_, fun wa hwa => ?_⟩
    have eL2 : L ≠ wa := ne_of_none hLL hwa
    have sw := same_new hwa (.lst ([Str.ofString "pass", z.name, Str.ofString "by", satN W z.sat, Str.ofString "over", staN W z.sta].map V.str))
    refine ⟨_, rfl, .inl ⟨rfl, _, SqL.of upd_same⟩, _, rfl, t1, _, 0, _, rfl, rfl, Same.tup sw k2, rfl, _, rfl, log_ok f0.1 f0.2, _, rfl, t1, _, 1, _, rfl, rfl, Same.tup sw k2, rfl, _, rfl, log_ok f1.1 f1.2, sz4_, fun wb hwb => ?_⟩
    have sx := same_new hwb (.lst ([Str.ofString "from", num z.first, Str.ofString "to", num z.fin].map V.str))
    refine ⟨wa, wb, _, _, rfl, rfl, sx _ _ upd_same, upd_same, sz10_, ?_⟩
    refine kv_run (l := pasKv z) (ws := [Str.ofString "pass", z.name, Str.ofString "by", satN W z.sat, Str.ofString "over", staN W z.sta] ++ [Str.ofString "from", num z.first, Str.ofString "to", num z.fin]) rfl (fun _ _ _ h => h) (by show 3 ≤ 10; decide) (pasKv_ok ok) hwa (same_at hwa (sw.trans sx) _) upd_same (by show 10 ≤ 900; decide) k3 (fun y H Q h => ⟨_, rfl, h⟩) (fun y H5 s5 hw5 => ?_)
    have hl5 := s5 _ _ hLL
    rw [wPas_eq] at hw5
    have okw := wPas_wd wg.ok ok
    refine ⟨_, rfl, .inl ⟨rfl, _, SqL.of hl5⟩, ⟨_, rfl⟩, _, rfl, _, wa, _, rfl, rfl, .inl (SqL.of hw5), join_fits okw (by show 16 ≤ 1015; decide), L, _, _, rfl, rfl, hl5, app_len n3 (by have := wg.ok.nPass; omega) (by decide), ?_⟩
    refine ⟨_, _, _, _, _, _, _, _, _, _, _, rfl, same_at hL (hs.trans s5) _, ?_⟩
    rw [upd_same, join_sp, app_step hz]
  obtain ⟨y2, y3, y4, y5, y6, y7, y8, y9, y10, y11, y12, rfl, hs4, hL4⟩ := hI
  rw [dpAll_len d2, List.length_map, List.take_length, show done3 W ++ W.pass.map (wPas W) = done4 W from rfl, done4_eq] at hL4
  exact ⟨_, rfl, q L _ hs4 hL hL4⟩
end
end DP
namespace DP
open PySem PySem.Spec PyProof.Rows L2
abbrev oor : Str := "number out of range"
theorem due_at {ws : List Str} {r : Nat} {u : Str} (h : ws[r]? = some u) (hn : u ≠ Str.ofString "") : rdDue ws r = .ok u := by
  unfold rdDue
  rw [h]
  exact if_neg hn
theorem choice_at {ws : List Str} {r : Nat} {x : Str} (h : ws[r]? = some x) (hn : x ≠ Str.ofString "") : rdChoice ws r [x] = .ok x := by
  unfold rdChoice
  rw [due_at h hn]
  exact if_pos List.mem_cons_self
theorem num_ne {m : Int} (h0 : 0 ≤ m) (h1 : m < 10000000) : num m ≠ Str.ofString "" := fun z => (num_wd h0 h1).1 (by rw [z]; decide +kernel)
theorem num_at {ws : List Str} {r : Nat} {lo hi m : Int} (h : ws[r]? = some (num m)) (h0 : 0 ≤ m) (h1 : m < 10000000) : rdNum ws r lo hi = if m < lo ∨ hi < m then .error (r, oor) else .ok m := by
  unfold rdNum
  rw [due_at h (num_ne h0 h1)]
  dsimp only
  rw [if_pos (isNumB_of h0 h1), numV_num h0 h1]
theorem fld_at {ws : List Str} {r : Nat} {x : Str} {lo hi m : Int} (h : ws[r]? = some x) (hx : x ≠ Str.ofString "") (h2 : ws[r + 1]? = some (num m)) (b : 0 ≤ m ∧ m < 10000000) : rdField ws r x lo hi = if m < lo ∨ hi < m then .error (r + 1, oor) else .ok m := by
  unfold rdField
  rw [choice_at h hx]
  exact num_at h2 b.1 b.2
theorem name_ne {u : Str} (h : NameOk u) : u ≠ Str.ofString "" := fun z => h.wd.1 (by rw [z]; decide +kernel)
theorem isNameB_of {u : Str} (h : NameOk u) : isNameB u = true := by
  have hs := h.signs
  obtain ⟨c, r, e, hc, _, hl⟩ := h
  have hlen : u.length ≤ 15 := by
    rw [TL.len_tl, show TL.tl u = tl u from rfl, e, List.length_cons]
    omega
  unfold isNameB
  rw [decide_eq_false (by omega), e, List.head?_cons]
  dsimp only
  rw [show letC c = true from decide_eq_true (let_in hc), ← e]
  refine List.all_eq_true.mpr fun x hx => ?_
  rcases Bool.or_eq_true _ _ ▸ hs x hx with z | z
  · rw [show letC x = true from decide_eq_true (let_in z)]; rfl
  · rw [show digC x = true from digC_of (isD_lt z), Bool.or_true]
theorem dname_at {ws : List Str} {r : Nat} {u : Str} (h : ws[r]? = some u) (hu : NameOk u) : rdDueName ws r = .ok u := by
  unfold rdDueName
  rw [due_at h (name_ne hu)]
  exact if_pos (isNameB_of hu)
theorem new_at {ws : List Str} {r : Nat} {u : Str} {used : List Str} (h : ws[r]? = some u) (hu : NameOk u) (hn : u ∉ used) : rdNew ws r used = .ok u := by
  unfold rdNew
  rw [dname_at h hu]
  exact if_neg hn
theorem known_at {ws : List Str} {r : Nat} {u : Str} {ns : List Str} (h : ws[r]? = some u) (hu : NameOk u) (hn : u ∈ ns) : rdKnown ws r ns 0 = .ok (idxS u ns) := by
  unfold rdKnown
  rw [dname_at h hu]
  dsimp only
  rw [if_pos hn, if_neg (by omega)]
theorem seq2_okv {α β : Type} {a : α} {f : α → Rd β} : seq2 (.ok a : Rd α) f = f a := rfl
theorem sort_at {ws : List Str} {k i : Nat} {N : List (List Str)} {x : Str} (h0 : ws[0]? = some x) (hx : x ≠ Str.ofString "") (hm : x ∈ sortsL) (hi : idxS x sortsL = i) (hk : ¬ i < k) (hl : ((nmsAt N i).length : Int) ≠ mostN i) : rdSort ws k N = .ok i := by
  unfold rdSort
  rw [due_at h0 hx, seq2_okv]
  rw [if_pos hm, hi, if_neg hk, if_neg hl]
theorem line_ok {h : Int} {k i : Nat} {N : List (List Str)} {ws : List Str} {nm : Str} (h1 : rdSort ws k N = .ok i) (h2 : rdKind i ws h N = .ok nm) (h3 : ¬ finK i ws < ws.length) : rdLine h k N ws = .ok (i, N.set i (nmsAt N i ++ [nm])) := by
  unfold rdLine
  rw [h1, seq2_okv, h2, seq2_okv, show rdFinish ws (finK i ws) = .ok () by unfold rdFinish; rw [if_neg h3], seq2_okv]
theorem all_ok {h n : Int} {k : Nat} {N : List (List Str)} {ws : List Str} {rest : List (List Str)} {s : Nat × List (List Str)} (h1 : rdLine h k N ws = .ok s) : rdAll h (ws :: rest) n k N = rdAll h rest (n + 1) s.1 s.2 := by
  show (match rdLine h k N ws with | .error e => Except.error (n, colW ws e.1, e.2) | .ok s => rdAll h rest (n + 1) s.1 s.2) = _
  rw [h1]
theorem all_err {h n : Int} {k : Nat} {N : List (List Str)} {ws : List Str} {rest : List (List Str)} {e : Er} (h1 : rdLine h k N ws = .error e) : rdAll h (ws :: rest) n k N = .error (n, colW ws e.1, e.2) := by
  show (match rdLine h k N ws with | .error e => Except.error (n, colW ws e.1, e.2) | .ok s => rdAll h rest (n + 1) s.1 s.2) = _
  rw [h1]
theorem colW_set {ws : List Str} {p : Nat} {x : Str} : colW (ws.set p x) p = colW ws p := by
  unfold colW
  rw [List.take_set_of_le (Nat.le_refl p)]
end DP
namespace DP
open PySem PySem.Spec PyProof.Rows L2
/-- a static method's call within a try -/
def tSMethS (C : Addr) (sp : Sp) (E : L2.St → XK) (ta : TE) (t : TA) : TE := fun σ H Q => ta σ H fun x H1 => x = .ref C ∧ t σ H1 fun vs H2 => sp vs H2 Q (E σ)
theorem pe_smethS {X : Cx} {CX : CXT} {k : Nat} {C : Addr} {m : Str} {ps : List Str} {sp : Sp} {E : L2.St → XK} {o e : Expr} {es : List Expr} {ta : TE} {t : TA} {pos apos : Pos} {pl : Sem Bool}
    (D : SDef X.prog X.w X.K X.mg X.base CX k C m ps sp) (rd : ClX.CRead X.K C (.type "type")) (hr : Room k X.A) (hx : ∀ σ, PassesAt CX X σ (E σ)) (he : PE X o ta) (ha : PA X (e :: es) t)
    (hst : starEach (e :: es) X.env = (false, eval e X.env) :: starEach es X.env := by rfl) (hpl : (backTo pos (starEach es X.env)).any (·.1) = false := by rfl)
    (ht : eval (.Call (.Attribute o m apos) (e :: es) [] pos) X.env = (do
      let ov ← eval o X.env
      standAt apos.atName
      let (f, first) ← holding [ov] (getMethod ov m pl)
      callWith pos f first (backTo pos (starEach (e :: es) X.env)) (backToKw pos (keywordEach [] X.env))) := by rfl) :
    PE X (.Call (.Attribute o m apos) (e :: es) [] pos) (tSMethS C sp E ta t) := by
  obtain ⟨f, fd, G, ⟨p, rest, e1, e2⟩, kp, b⟩ := D.ex
  refine ⟨fun pins s σ H Q I h => ?_⟩
  refine PySem.W.methodCall_KW (pl := pl) (thn (he.run pins s σ H _ I h) fun u s1 ⟨x, H1, I1, rx, ex, q⟩ => ?_) ht
  subst ex
  obtain rfl : u = Value.ref C := rx
  have I2 := I1.tok (s1.toks + 1)
  refine PySem.W.method_cls I1.kIn rd.ga (PySem.W.cls_bind I1.kIn rd.rd e1 (wpAny_call (PySem.W.sm_get (s := { s1 with toks := s1.toks + 1 }) I2.kIn e2 (PySem.W.handed_on (handed_of (v := .ref f) rfl) ?_))))
  refine PySem.W.callWith_K (h₀ := X.base) I.ok.mod.kin kp (thn (ha.run pos pins _ σ H1 _ I2 q) fun us s3 ⟨vs, H2, I3, r, q2⟩ => ⟨I3.kIn, ?_⟩) hst hpl
  exact run_fnS G hr b (hx σ) I3 r q2
/-- words without blanks and newlines -/
def WdX (w : Str) : Prop := 32 ∉ tl w ∧ 10 ∉ tl w ∧ (tl w).length ≤ 40
theorem WdOk.x {w : Str} (h : WdOk w) : WdX w := ⟨h.2.1, h.2.2.1, Nat.le_trans h.2.2.2 (by decide)⟩
theorem row_freeX {ws : List Str} (h : ∀ w ∈ ws, WdX w) : 10 ∉ tl (row ws) := by
  unfold row
  rw [show tl (Str.join sp ws) = TL.joinL (tl sp) (ws.map tl) from TL.tl_join sp ws]
  refine joinL_free (by rw [tl_sp]; decide) _ fun p hp => ?_
  obtain ⟨w, hw, rfl⟩ := List.mem_map.mp hp
  exact (h w hw).2.1
theorem row_lenX {ws : List Str} (h : ∀ w ∈ ws, WdX w) : (row ws).length ≤ ws.length * 41 := by
  rw [TL.len_tl]
  unfold row
  rw [show TL.tl (Str.join sp ws) = TL.joinL (tl sp) (ws.map tl) from TL.tl_join sp ws]
  have := joinL_len (m := 40) (S := tl sp) (ws.map tl) fun p hp => by
    obtain ⟨w, hw, rfl⟩ := List.mem_map.mp hp
    exact (h w hw).2.2
  rw [List.length_map, tl_sp] at this
  rw [tl_sp]
  exact this
theorem row_splitX {ws : List Str} (hn : ws ≠ []) (h : ∀ w ∈ ws, WdX w) : Txt.split (row ws) sp = ws := by
  have e := TL.split_join (y := sp) (s := 32) (S := []) tl_sp (by decide +kernel) hn (fun p hp => (h p hp).1)
  rw [TL.join_eq] at e
  exact e
structure LnW (l : List Str) : Prop where
  ne : l ≠ []
  wd : ∀ w ∈ l, WdX w
  sz : l.length ≤ 400
theorem LnW.ok {l : List Str} (h : LnW l) : LnOk l := ⟨h.ne, row_splitX h.ne h.wd, Nat.le_trans (row_lenX h.wd) (by have := h.sz; omega), fun w hw => by rw [TL.len_tl]; exact (h.wd w hw).2.2, by have := h.sz; omega⟩
theorem split_glueX {lns : List (List Str)} (h : ∀ l ∈ lns, LnW l) : Txt.split (glue (lns.map row)) nl = lns.map row ++ [Str.empty] := glue_split fun r hr => by
  obtain ⟨l, hl, rfl⟩ := List.mem_map.mp hr
  exact row_freeX (h l hl).wd
theorem glue_lenX {lns : List (List Str)} (h : ∀ l ∈ lns, LnW l) (hn : lns.length ≤ 40) : (glue (lns.map row)).length ≤ 1000000 := by
  have h1 := glue_len (rows := lns.map row) (m := 16400) fun r hr => by
    obtain ⟨l, hl, rfl⟩ := List.mem_map.mp hr
    have h2 := row_lenX (h l hl).wd
    have h3 := (h l hl).sz
    omega
  rw [List.length_map] at h1
  have h3 : (lns.length + 1) * (16400 + 1) ≤ 41 * 16401 := Nat.mul_le_mul_right _ (by omega)
  show (glue _).length ≤ _
  omega
theorem fit_bigX {n : Nat} (h : n ≤ 17256) : n ≤ sizeLine := Nat.le_trans h (by unfold sizeLine; decide)
theorem len_addX {x y : Str} {a b : Nat} (h : x.length ≤ a) (k : y.length ≤ b) : (x ++ y).length ≤ a + b := by rw [len_app]; omega
end DP
namespace DP
open PySem PySem.Spec PyProof.Rows L2
theorem lit_wd {w : Str} (h : (!((tl w).contains 32) && !((tl w).contains 10) && decide ((tl w).length ≤ 40)) = true) : WdX w := by
  simp only [Bool.and_eq_true, Bool.not_eq_true', List.contains_eq_mem, decide_eq_false_iff_not, decide_eq_true_eq] at h
  exact ⟨h.1.1, h.1.2, h.2⟩
theorem lns_set {L : List (List Str)} {r : Nat} {x : List Str} (h : ∀ l ∈ L, LnW l) (k : LnW x) : ∀ l ∈ L.set r x, LnW l := fun l hl => by
  rcases List.mem_or_eq_of_mem_set hl with z | z
  · exact h l z
  · rw [z]
    exact k
theorem sum_wd : ∀ {l : List Str}, (∀ w ∈ l, WdX w) → (l.map fun x => x.length).sum ≤ 40 * l.length
  | [], _ => Nat.zero_le _
  | x :: r, h => by
    have h1 := sum_wd (l := r) fun w hw => h w (List.mem_cons_of_mem _ hw)
    have h2 : x.length ≤ 40 := by rw [TL.len_tl]; exact (h x List.mem_cons_self).2.2
    simp only [List.map_cons, List.sum_cons, List.length_cons]
    omega
theorem jl_len : ∀ {us : List Str}, us ≠ [] → ((TL.joinL (tl sp) (us.map tl)).length : Int) + 1 = (us.map fun w => (w.length : Int) + 1).sum
  | [], h => absurd rfl h
  | [x], _ => by
    show ((tl x).length : Int) + 1 = ((x.length : Int) + 1) + 0
    rw [TL.len_tl]
    show ((tl x).length : Int) + 1 = (((tl x).length : Int) + 1) + 0
    omega
  | x :: y :: r, _ => by
    have ih := jl_len (us := y :: r) (List.cons_ne_nil _ _)
    have e : TL.joinL (tl sp) ((x :: y :: r).map tl) = tl x ++ tl sp ++ TL.joinL (tl sp) ((y :: r).map tl) := by first | rfl | (simp only [List.map_cons, TL.joinL, List.append_assoc])
    have lx : x.length = (tl x).length := TL.len_tl x
    have e2 : ((x :: y :: r).map fun w => (w.length : Int) + 1).sum = ((x.length : Int) + 1) + ((y :: r).map fun w => (w.length : Int) + 1).sum := rfl
    have e3 : (tl sp).length = 1 := by rw [tl_sp]; rfl
    rw [e2, ← ih, e, List.length_append, List.length_append, e3, lx]
    omega
theorem col_row {ws : List Str} {p : Nat} (h1 : 1 ≤ p) (h2 : p < ws.length) : ((row (ws.take p)).length : Int) + 2 = colW ws p := by
  have hn : ws.take p ≠ [] := fun z => by
    have := congrArg List.length z
    rw [List.length_take, List.length_nil] at this
    omega
  have := jl_len hn
  unfold colW
  rw [← this, TL.len_tl]
  unfold row
  rw [show TL.tl (Str.join sp (ws.take p)) = TL.joinL (tl sp) ((ws.take p).map tl) from TL.tl_join sp _]
  omega
theorem cut_toW {xs : List V} {i : Nat} (h : i ≤ xs.length) : cutV xs none (some (i : Int)) = xs.take i := by
  unfold cutV
  rw [HT.sIx_none, HT.sIx_nat, List.drop_zero, Nat.sub_zero, Nat.min_eq_left h]
theorem ixN_natW {n j : Nat} (hj : j < n) : ixN n (j : Int) = some j := by
  unfold ixN
  rw [if_pos (by omega), if_pos (by omega)]
  simp
end DP
namespace DP
open PySem PySem.Spec PyProof.Rows L2
theorem takesN0 {X : Cx} : L2N.Takes X fun _ _ _ _ => False := fun _ _ x => by
  obtain ⟨_, _, _, _, _, _, _, _, _, _, _, _, _, _, _, _, h⟩ := x
  exact h.elim
theorem hotN {X : Cx} {a : Addr} {oe : Obj} {cls : Value} {d : Option Addr} {pn : List (Addr × Obj)} (hz : L2N.Zn cls d oe) (hf : ∃ vs, oe.data = .fields vs) : L2H.HotC (X.suite a ((a, oe) :: pn)) := by
  obtain ⟨vs, e⟩ := hf
  exact ⟨(a, oe), ⟨rfl, vs, e, hz.2.2 vs e⟩, List.mem_cons_self⟩
theorem roomN {X : Cx} {k : Nat} {a : Addr} {pn : List (Addr × Obj)} (r : Room k X.A) : L2H.RoomH k (X.suite a pn).A := ⟨r.dp, r.un⟩
/-- isinstance(e, c), e the caught exception with a dict of its own -/
def rIsEG (K : PySem.W.Frag) (D a : Addr) (cls : Value) (d : Option Addr) : List V → Hp → VK → Prop := fun xs H Q => cls = .ref D ∧ ∃ (dd : Addr) (fs : List (Str × V)) (c : V) (cv : Value) (b : Bool), d = some dd ∧ H dd = some (.xd fs) ∧ xs = [.ref a, c] ∧ (∀ u, RelV c u → u = cv) ∧ PySem.W.kitOne K (.ref D) cv = some b ∧ Q (.bl b) H
theorem call_isEG {X : Cx} {a D : Addr} {oe : Obj} {cls : Value} {d : Option Addr} {pn : List (Addr × Obj)} (C : ExcC X.K D) (hc : (PySem.W.clsIn X.K D).isSome = true) (hz : Zc cls d oe) (hf : ∃ vs, oe.data = .fields vs) : CallR (X.suite a ((a, oe) :: pn)) (.builtin "isinstance") (rIsEG X.K D a cls d) := by
  intro ps t σ H xs us R J r w0
  obtain ⟨e0, dd, fs, c, cv, b, e1, ed, e2, same, kt, q⟩ := w0
  subst e0 e1 e2
  obtain ⟨vs, hv⟩ := hf
  have got := (J.pin (a, oe) (List.mem_append.mpr (.inl List.mem_cons_self))).1
  have hx : ObjOk X.prog X.w H t.heap dd (.xd fs) := J.hok dd _ ed
  obtain ⟨mA, hns, _⟩ := hx
  obtain ⟨od, ho, _⟩ := lookIn_ns hns
  have I : PySem.W.InstAt t.heap a oe D (some od) := ⟨got, hz.1, by unfold PySem.W.notCls; rw [hv] <;> rfl, by rw [hz.2]; exact ho⟩
  match us, r with
  | [_, u], .cons rx (.cons rt .nil) =>
    cases rx
    obtain rfl := same _ rt
    exact PySem.W.kia_one (PySem.W.kitx_exc (od := some od) hc C.hg C.hk C.hs C.ha C.hn C.ht C.hm) J.kIn I kt (fun z => nomatch z) fun tk => ⟨.bl b, H, J.kept (t' := tk) fun _ _ z => z, rfl, q⟩
end DP
namespace DP
open PySem PySem.Spec PyProof.Rows L2
abbrev s__law_is_integer : Stmt := topS 51
theorem sc__law_is_integer : FnScope ["actual"] ["actual"] (defScope s__law_is_integer) := ⟨rfl, rfl, rfl, by decide +kernel, rfl, by decide +kernel, by decide +kernel⟩
section
variable {P : Program} {w : World} {K : PySem.W.Frag} {mg : Str → Option Value} {base : Heap}
def spIsInt : Sp := fun vs H Q _ => ∃ i : Int, vs = [.int i] ∧ Q (.bl true) H
theorem d_is_integerH (B : Bt mg) (A : At K mg "_law_is_integer" s__law_is_integer ["actual"]) : DefH P w K mg base CX0 1 "_law_is_integer" ["actual"] spIsInt := by
  refine A.okH sc__law_is_integer (fun vs H Q E h => ?_) (fun f cdv A outer s H vs Q E p hot hr h => ?_)
  · obtain ⟨i, rfl, _⟩ := h
    rfl
  obtain ⟨i, rfl, q⟩ := h
  refine ⟨_, pss_one (ps_ret (pe_and (pe_callB (call_isi) (by rfl) B.isinstance (by decide +kernel) (pa_cons (pv 0) (pa_cons (pe_bltn (v := .ty "int") (u := .type "int") (by rfl) B.int (by decide +kernel) rfl) pa_nil))) (pe_one (pe_not (pe_callB (call_isi) (by rfl) B.isinstance (by decide +kernel) (pa_cons (pv 0) (pa_cons (pe_bltn (v := .ty "bool") (u := .type "bool") (by rfl) B.bool (by decide +kernel) rfl) pa_nil)))))))
    , ?_⟩
  refine ⟨_, rfl, _, .ty "int", _, _, true, rfl, .ty "int", .base (.int i), kit_ty (by decide +kernel), true, rfl, iteT ?_⟩
  exact ⟨_, rfl, _, .ty "bool", _, _, false, rfl, .ty "bool", .base (.int i), kit_ty (by decide +kernel), false, rfl, q⟩
end
end DP
namespace DP
open PySem PySem.Spec PyProof.Rows L2
abbrev unW3 : Str := "unexpected word"
abbrev emW3 : Str := "empty word"
abbrev miW3 : Str := "missing word"
abbrev nuE3 : Str := "number expected"
abbrev naE3 : Str := "name expected"
def badL : List Str := [Str.ofString "-1", Str.ofString "007", Str.ofString "12345678", Str.ofString "4x", Str.ofString "Zz9_", Str.ofString "a23456789012345b"]
theorem bad_num : ∀ u ∈ badL, isNumB u = false ∧ isNameB u = false ∧ u ≠ Str.ofString "" := by decide +kernel
/-- what is refused where o stands; ρ: the reason if it is a word that doesn't fit -/
def Bad (ρ : Str) (o : Option Str) (why : Str) : Prop := (o = none ∧ why = miW3) ∨ (o = some (Str.ofString "") ∧ why = emW3) ∨ ∃ u, o = some u ∧ u ∈ badL ∧ why = ρ
theorem due_ext {ws ws' : List Str} {r : Nat} (h : ws[r]? = ws'[r]?) : rdDue ws r = rdDue ws' r := by unfold rdDue; rw [h]
theorem due_bad {ws : List Str} {r : Nat} {ρ why : Str} (h : Bad ρ ws[r]? why) : rdDue ws r = .error (r, why) ∨ ∃ u, rdDue ws r = .ok u ∧ u ∈ badL ∧ why = ρ := by
  rcases h with ⟨h, rfl⟩ | ⟨h, rfl⟩ | ⟨u, h, hu, rfl⟩
  · left; unfold rdDue; rw [h]
  · left; unfold rdDue; rw [h]; exact if_pos rfl
  · exact .inr ⟨u, due_at h (bad_num u hu).2.2, hu, rfl⟩
/-- a reader of the places from r0 to r1 - 1 -/
structure Pfx {α : Type} (f : List Str → Rd α) (r0 r1 : Nat) (ρ : Nat → Str) : Prop where
  le : r0 ≤ r1
  ext : ∀ ws ws', (∀ j, j < r1 → ws[j]? = ws'[j]?) → f ws = f ws'
  cut : ∀ ws a ws' p why, f ws = .ok a → r0 ≤ p → p < r1 → (∀ j, j < p → ws[j]? = ws'[j]?) → Bad (ρ p) ws'[p]? why → f ws' = .error (p, why)
section
variable {α β : Type} {r r0 r1 r2 : Nat} {ρ : Nat → Str}
theorem Pfx.seq {f : List Str → Rd α} {g : α → List Str → Rd β} (hf : Pfx f r0 r1 ρ) (hg : ∀ a, Pfx (g a) r1 r2 ρ) (h12 : r1 ≤ r2) : Pfx (fun ws => seq2 (f ws) fun a => g a ws) r0 r2 ρ where
  le := Nat.le_trans hf.le h12
  ext := fun ws ws' h => by
    show seq2 (f ws) _ = seq2 (f ws') _
    rw [hf.ext ws ws' fun j hj => h j (Nat.lt_of_lt_of_le hj h12)]
    cases f ws' with
    | error e => rfl
    | ok a => exact (hg a).ext ws ws' h
  cut := fun ws b ws' p why hok h0 h2 hag hb => by
    show seq2 (f ws') _ = _
    have hok : seq2 (f ws) (fun a => g a ws) = .ok b := hok
    cases e : f ws with
    | error x => rw [e] at hok; cases hok
    | ok a =>
      rw [e] at hok
      have hok : g a ws = .ok b := hok
      by_cases c : p < r1
      · exact seq2_err (hf.cut ws a ws' p why e h0 c hag hb)
      · have e2 := hf.ext ws ws' fun j hj => hag j (by omega)
        rw [← e2, e]
        exact (hg a).cut ws b ws' p why hok (by omega) h2 hag hb
theorem pfx_ok {a : α} : Pfx (fun _ => (.ok a : Rd α)) r r ρ := ⟨Nat.le_refl _, fun _ _ _ => rfl, fun _ _ _ _ _ _ h0 h1 => absurd h1 (by omega)⟩
/-- one place: the word that is due there, and what it is held against -/
theorem pfx_one {f : List Str → Rd α} (hd : ∀ ws ws', rdDue ws r = rdDue ws' r → f ws = f ws') (he : ∀ ws e, rdDue ws r = .error e → f ws = .error e) (hb : ∀ ws u, rdDue ws r = .ok u → u ∈ badL → f ws = .error (r, ρ r)) : Pfx f r (r + 1) ρ where
  le := Nat.le_succ _
  ext := fun ws ws' h => hd ws ws' (due_ext (h r (Nat.lt_succ_self _)))
  cut := fun ws a ws' p why _ h0 h1 _ hbad => by
    have ep : p = r := by omega
    subst ep
    rcases due_bad hbad with h | ⟨u, h, hu, rfl⟩
    · exact he _ _ h
    · exact hb _ u h hu
theorem pfx_choice {cs : List Str} (h : ∀ u ∈ badL, u ∉ cs) (e : ρ r = unW3) : Pfx (fun ws => rdChoice ws r cs) r (r + 1) ρ :=
  pfx_one (fun ws ws' z => by show rdChoice ws r cs = rdChoice ws' r cs; unfold rdChoice; rw [z]) (fun ws x z => by show rdChoice ws r cs = _; unfold rdChoice; rw [z]) fun ws u z hu => by show rdChoice ws r cs = _; unfold rdChoice; rw [z, e]; exact if_neg (h u hu)
theorem pfx_num {lo hi : Int} (e : ρ r = nuE3) : Pfx (fun ws => rdNum ws r lo hi) r (r + 1) ρ :=
  pfx_one (fun ws ws' z => by show rdNum ws r lo hi = rdNum ws' r lo hi; unfold rdNum; rw [z]) (fun ws x z => by show rdNum ws r lo hi = _; unfold rdNum; rw [z]) fun ws u z hu => by show rdNum ws r lo hi = _; unfold rdNum; rw [z, e]; dsimp only; rw [(bad_num u hu).1]; rfl
theorem dname_ext {ws ws' : List Str} (z : rdDue ws r = rdDue ws' r) : rdDueName ws r = rdDueName ws' r := by unfold rdDueName; rw [z]
theorem dname_bad {ws : List Str} {u : Str} (z : rdDue ws r = .ok u) (hu : u ∈ badL) : rdDueName ws r = .error (r, naE3) := by
  unfold rdDueName
  rw [z]
  dsimp only
  rw [(bad_num u hu).2.1]
  rfl
theorem pfx_new {used : List Str} (e : ρ r = naE3) : Pfx (fun ws => rdNew ws r used) r (r + 1) ρ :=
  pfx_one (fun ws ws' z => by show rdNew ws r used = rdNew ws' r used; unfold rdNew; rw [dname_ext z]) (fun ws x z => by show rdNew ws r used = _; unfold rdNew rdDueName; rw [z]) fun ws u z hu => by show rdNew ws r used = _; unfold rdNew; rw [dname_bad z hu, e]
theorem pfx_known {ns : List Str} {least : Int} (e : ρ r = naE3) : Pfx (fun ws => rdKnown ws r ns least) r (r + 1) ρ :=
  pfx_one (fun ws ws' z => by show rdKnown ws r ns least = rdKnown ws' r ns least; unfold rdKnown; rw [dname_ext z]) (fun ws x z => by show rdKnown ws r ns least = _; unfold rdKnown rdDueName; rw [z]) fun ws u z hu => by show rdKnown ws r ns least = _; unfold rdKnown; rw [dname_bad z hu, e]
theorem fld_seq {ws : List Str} {x : Str} {lo hi : Int} : rdField ws r x lo hi = seq2 (rdChoice ws r [x]) fun _ => rdNum ws (r + 1) lo hi := by
  unfold rdField seq2
  cases rdChoice ws r [x] <;> rfl
theorem pfx_field {x : Str} {lo hi : Int} (h : ∀ u ∈ badL, u ∉ [x]) (e : ρ r = unW3) (e2 : ρ (r + 1) = nuE3) : Pfx (fun ws => rdField ws r x lo hi) r (r + 2) ρ := by
  have z : (fun ws => rdField ws r x lo hi) = fun ws => seq2 (rdChoice ws r [x]) fun _ => rdNum ws (r + 1) lo hi := funext fun ws => fld_seq
  rw [z]
  exact (pfx_choice h e).seq (fun _ => pfx_num e2) (by omega)
theorem pfx_sort {k : Nat} {N : List (List Str)} (e : ρ 0 = unW3) : Pfx (fun ws => rdSort ws k N) 0 1 ρ :=
  pfx_one (fun ws ws' z => by show rdSort ws k N = rdSort ws' k N; unfold rdSort; rw [z]) (fun ws x z => by show rdSort ws k N = _; unfold rdSort; rw [z]; rfl) fun ws u z hu => by
    have hn : u ∉ sortsL := (by decide +kernel : ∀ u ∈ badL, u ∉ sortsL) u hu
    show rdSort ws k N = _
    unfold rdSort
    rw [z, e]
    exact if_neg hn
end
def ρHor (p : Nat) : Str := if p = 1 then nuE3 else unW3
def ρSta (p : Nat) : Str := if p = 1 then naE3 else if p % 2 = 1 then nuE3 else unW3
def ρSat (p : Nat) : Str := if p = 1 then naE3 else if 15 ≤ p then nuE3 else if p % 2 = 1 then nuE3 else unW3
def ρRec (p : Nat) : Str := if p = 1 ∨ p = 3 then naE3 else if p % 2 = 1 then nuE3 else unW3
def ρPas (p : Nat) : Str := if p = 1 ∨ p = 3 ∨ p = 5 then naE3 else if p % 2 = 1 then nuE3 else unW3
section
variable {h : Int} {used sats stas : List Str}
theorem pfx_sta : Pfx (fun ws => rdSta ws used) 1 6 ρSta := by
  refine Pfx.seq (r1 := 2) (pfx_new rfl) (fun _ => ?_) (by decide)
  refine Pfx.seq (r1 := 4) (pfx_field (by decide +kernel) rfl rfl) (fun _ => ?_) (by decide)
  exact Pfx.seq (r1 := 6) (pfx_field (by decide +kernel) rfl rfl) (fun _ => pfx_ok) (by decide)
theorem pfx_rec : Pfx (fun ws => rdRec ws h sats used) 1 20 ρRec := by
  refine Pfx.seq (r1 := 2) (pfx_new rfl) (fun _ => ?_) (by decide)
  refine Pfx.seq (r1 := 3) (pfx_choice (by decide +kernel) rfl) (fun _ => ?_) (by decide)
  refine Pfx.seq (r1 := 4) (pfx_known rfl) (fun _ => ?_) (by decide)
  refine Pfx.seq (r1 := 6) (pfx_field (by decide +kernel) rfl rfl) (fun _ => ?_) (by decide)
  refine Pfx.seq (r1 := 8) (pfx_field (by decide +kernel) rfl rfl) (fun _ => ?_) (by decide)
  refine Pfx.seq (r1 := 10) (pfx_field (by decide +kernel) rfl rfl) (fun _ => ?_) (by decide)
  refine Pfx.seq (r1 := 12) (pfx_field (by decide +kernel) rfl rfl) (fun _ => ?_) (by decide)
  refine Pfx.seq (r1 := 14) (pfx_field (by decide +kernel) rfl rfl) (fun _ => ?_) (by decide)
  refine Pfx.seq (r1 := 16) (pfx_field (by decide +kernel) rfl rfl) (fun _ => ?_) (by decide)
  refine Pfx.seq (r1 := 18) (pfx_field (by decide +kernel) rfl rfl) (fun _ => ?_) (by decide)
  exact Pfx.seq (r1 := 20) (pfx_field (by decide +kernel) rfl rfl) (fun _ => pfx_ok) (by decide)
theorem pfx_pas : Pfx (fun ws => rdPas ws h sats stas used) 1 16 ρPas := by
  refine Pfx.seq (r1 := 2) (pfx_new rfl) (fun _ => ?_) (by decide)
  refine Pfx.seq (r1 := 3) (pfx_choice (by decide +kernel) rfl) (fun _ => ?_) (by decide)
  refine Pfx.seq (r1 := 4) (pfx_known rfl) (fun _ => ?_) (by decide)
  refine Pfx.seq (r1 := 5) (pfx_choice (by decide +kernel) rfl) (fun _ => ?_) (by decide)
  refine Pfx.seq (r1 := 6) (pfx_known rfl) (fun _ => ?_) (by decide)
  refine Pfx.seq (r1 := 8) (pfx_field (by decide +kernel) rfl rfl) (fun _ => ?_) (by decide)
  refine Pfx.seq (r1 := 10) (pfx_field (by decide +kernel) rfl rfl) (fun _ => ?_) (by decide)
  refine Pfx.seq (r1 := 12) (pfx_field (by decide +kernel) rfl rfl) (fun _ => ?_) (by decide)
  refine Pfx.seq (r1 := 14) (pfx_field (by decide +kernel) rfl rfl) (fun _ => ?_) (by decide)
  exact Pfx.seq (r1 := 16) (pfx_field (by decide +kernel) rfl rfl) (fun _ => pfx_ok) (by decide)
/-- a satellite's line as far as its light -/
def rdSatF (ws : List Str) (used : List Str) : Rd Str :=
  seq2 (rdNew ws 1 used) fun nm => seq2 (rdField ws 2 "store" 0 1000000) fun _ => seq2 (rdField ws 4 "battery" 0 1000000) fun b => seq2 (rdField ws 6 "level" 0 b) fun l => seq2 (rdField ws 8 "reserve" 0 l) fun _ => seq2 (rdField ws 10 "charge" 0 1000) fun _ =>
  seq2 (rdField ws 12 "settle" 0 60) fun _ => seq2 (rdChoice ws 14 ["light"]) fun _ => .ok nm
theorem pfx_satF : Pfx (fun ws => rdSatF ws used) 1 15 ρSat := by
  refine Pfx.seq (r1 := 2) (pfx_new rfl) (fun _ => ?_) (by decide)
  refine Pfx.seq (r1 := 4) (pfx_field (by decide +kernel) rfl rfl) (fun _ => ?_) (by decide)
  refine Pfx.seq (r1 := 6) (pfx_field (by decide +kernel) rfl rfl) (fun _ => ?_) (by decide)
  refine Pfx.seq (r1 := 8) (pfx_field (by decide +kernel) rfl rfl) (fun _ => ?_) (by decide)
  refine Pfx.seq (r1 := 10) (pfx_field (by decide +kernel) rfl rfl) (fun _ => ?_) (by decide)
  refine Pfx.seq (r1 := 12) (pfx_field (by decide +kernel) rfl rfl) (fun _ => ?_) (by decide)
  refine Pfx.seq (r1 := 14) (pfx_field (by decide +kernel) rfl rfl) (fun _ => ?_) (by decide)
  exact Pfx.seq (r1 := 15) (pfx_choice (by decide +kernel) rfl) (fun _ => pfx_ok) (by decide)
theorem seq2_as {α β γ : Type} {x : Rd α} {f : α → Rd β} {g : β → Rd γ} : seq2 (seq2 x f) g = seq2 x fun a => seq2 (f a) g := by
  cases x <;> rfl
theorem sat_split {ws : List Str} : rdSat ws h used = seq2 (rdSatF ws used) fun nm => seq2 (rdLight ws h ws.length 15 0) fun _ => .ok nm := by
  unfold rdSat rdSatF
  simp only [seq2_as, seq2_okv]
/-- what is refused where a minute is due -/
def LBad (o : Option Str) (why : Str) : Prop := (o = none ∧ why = miW3) ∨ (o = some (Str.ofString "") ∧ why = emW3) ∨ ∃ u, o = some u ∧ u ≠ Str.ofString "" ∧ isNumB u = false ∧ why = nuE3
theorem Bad.l {ρ why : Str} {o : Option Str} (hb : Bad ρ o why) (e : ρ = nuE3) : LBad o why := by
  rcases hb with z | z | ⟨u, z1, z2, z3⟩
  · exact .inl z
  · exact .inr (.inl z)
  · exact .inr (.inr ⟨u, z1, (bad_num u z2).2.2, (bad_num u z2).1, by rw [z3, e]⟩)
theorem num_lbad {ws : List Str} {r : Nat} {lo hi : Int} {why : Str} (hb : LBad ws[r]? why) : rdNum ws r lo hi = .error (r, why) := by
  unfold rdNum
  rcases hb with ⟨z, rfl⟩ | ⟨z, rfl⟩ | ⟨u, z, zn, zb, rfl⟩
  · unfold rdDue; rw [z]
  · unfold rdDue; rw [z]; dsimp only; rw [if_pos rfl]
  · rw [due_at z zn]; dsimp only; rw [zb]; rfl
theorem num_ext {ws ws' : List Str} {r : Nat} {lo hi : Int} (z : ws[r]? = ws'[r]?) : rdNum ws r lo hi = rdNum ws' r lo hi := by unfold rdNum; rw [due_ext z]
theorem light_step {ws : List Str} {k r : Nat} {le : Int} : rdLight ws h (k + 1) r le = if r < ws.length then (match rdNum ws r le (h - 1) with | .error e => .error e | .ok f => match rdNum ws (r + 1) (f + 1) h with | .error e => .error e | .ok g => rdLight ws h k (r + 2) g) else .ok () := rfl
theorem light_cut {ws ws' : List Str} {p : Nat} {why : Str} (hag : ∀ j, j < p → ws[j]? = ws'[j]?) (hb : LBad ws'[p]? why) (hp : p ≤ ws.length) : ∀ (k' k r : Nat) (le : Int), rdLight ws h k r le = .ok () → ws.length ≤ r + k → r ≤ p → p < r + 2 * k' → ((p - r) % 2 = 0 → p < ws'.length) → rdLight ws' h k' r le = .error (p, why)
  | 0, _, _, _, _, _, _, h1, _ => absurd h1 (by omega)
  | k' + 1, k, r, le, hok, hf, h0, h1, hev => by
    rw [light_step]
    by_cases c : p = r
    · subst c
      rw [if_pos (hev (by omega)), num_lbad hb]
    have hr : r < ws.length := by omega
    have er := hag r (by omega)
    have hr' : r < ws'.length := by
      rw [List.getElem?_eq_getElem hr] at er
      exact (List.getElem?_eq_some_iff.mp er.symm).1
    obtain ⟨k0, rfl⟩ : ∃ k0, k = k0 + 1 := ⟨k - 1, by omega⟩
    rw [light_step, if_pos hr] at hok
    rw [if_pos hr', ← num_ext er]
    cases e1 : rdNum ws r le (h - 1) with
    | error x => rw [e1] at hok; cases hok
    | ok f =>
      rw [e1] at hok
      dsimp only at hok ⊢
      by_cases c2 : p = r + 1
      · subst c2
        rw [num_lbad hb]
      cases e2 : rdNum ws (r + 1) (f + 1) h with
      | error x => rw [e2] at hok; cases hok
      | ok g =>
        rw [e2] at hok
        dsimp only at hok
        rw [← num_ext (hag (r + 1) (by omega)), e2]
        exact light_cut hag hb hp k' k0 (r + 2) g hok (by omega) (by omega) (by omega) (fun z => hev (by omega))
theorem light_ok : ∀ (l : List (Int × Int)) (k r : Nat) (le : Int) (ws : List Str), LightOk le h l → 0 ≤ le → h ≤ 500 → ws.drop r = lightW l → rdLight ws h k r le = .ok ()
  | [], k, r, le, ws, _, _, _, hd => by
    have hn : ¬ r < ws.length := by have := List.drop_eq_nil_iff.mp hd; omega
    cases k with
    | zero => rfl
    | succ k => rw [light_step, if_neg hn]
  | q :: t, k, r, le, ws, ⟨h1, h2, h3, h4⟩, h0, hh, hd => by
    cases k with
    | zero => rfl
    | succ k =>
      have d0 : ws[r]? = some (num q.1) := by
        have : (ws.drop r)[0]? = some (num q.1) := by rw [hd]; rfl
        rwa [List.getElem?_drop, Nat.add_zero] at this
      have d1 : ws[r + 1]? = some (num q.2) := by
        have : (ws.drop r)[1]? = some (num q.2) := by rw [hd]; rfl
        rwa [List.getElem?_drop] at this
      have d2 : ws.drop (r + 2) = lightW t := by
        rw [← List.drop_drop, hd]
        rfl
      rw [light_step, if_pos (List.getElem?_eq_some_iff.mp d0).1, num_at d0 (by omega) (by omega), if_neg (by omega)]
      dsimp only
      rw [num_at d1 (by omega) (by omega), if_neg (by omega)]
      exact light_ok t k (r + 2) q.2 ws h4 (by omega) hh d2
end
end DP
namespace DP
open PySem PySem.Spec PyProof.Rows L2
section
variable {W : WorldD} {used sats stas : List Str} {h : Int}
theorem fld_ok {ws : List Str} {r : Nat} {x : Str} {lo hi m : Int} (h1 : ws[r]? = some x) (hx : x ≠ Str.ofString "") (h2 : ws[r + 1]? = some (num m)) (b : 0 ≤ m ∧ m < 10000000) (c : lo ≤ m ∧ m ≤ hi) : rdField ws r x lo hi = .ok m := by
  rw [fld_at h1 hx h2 b, if_neg (by omega)]
theorem wSat_len {s : SatD} : (wSat s).length = 15 + 2 * s.light.length := by
  unfold wSat
  rw [List.length_append, lightW_len]
  rfl
theorem sat_ok {s : SatD} (hs : SatOk h s) (hh : h ≤ 500) (hu : s.name ∉ used) : rdSat (wSat s) h used = .ok s.name := by
  have b1 := hs.store
  have b2 := hs.battery
  have b3 := hs.level
  have b4 := hs.reserve
  have b5 := hs.charge
  have b6 := hs.settle
  have f0 : rdNew (wSat s) 1 used = .ok s.name := new_at rfl hs.name hu
  have f1 : rdField (wSat s) 2 "store" 0 1000000 = .ok s.store := fld_ok rfl (by decide +kernel) rfl (by omega) (by omega)
  have f2 : rdField (wSat s) 4 "battery" 0 1000000 = .ok s.battery := fld_ok rfl (by decide +kernel) rfl (by omega) (by omega)
  have f3 : rdField (wSat s) 6 "level" 0 s.battery = .ok s.level := fld_ok rfl (by decide +kernel) rfl (by omega) (by omega)
  have f4 : rdField (wSat s) 8 "reserve" 0 s.level = .ok s.reserve := fld_ok rfl (by decide +kernel) rfl (by omega) (by omega)
  have f5 : rdField (wSat s) 10 "charge" 0 1000 = .ok s.charge := fld_ok rfl (by decide +kernel) rfl (by omega) (by omega)
  have f6 : rdField (wSat s) 12 "settle" 0 60 = .ok s.settle := fld_ok rfl (by decide +kernel) rfl (by omega) (by omega)
  have c1 : rdChoice (wSat s) 14 ["light"] = .ok (Str.ofString "light") := choice_at rfl (by decide +kernel)
  have li : rdLight (wSat s) h (wSat s).length 15 0 = .ok () := light_ok s.light _ 15 0 (wSat s) hs.light (Int.le_refl 0) hh rfl
  simp only [rdSat, f0, f1, f2, f3, f4, f5, f6, c1, li, seq2_okv]
theorem sta_ok {s : StaD} (hs : StaOk s) (hu : s.name ∉ used) : rdSta (wSta s) used = .ok s.name := by
  have b1 := hs.antennas
  have b2 := hs.turn
  have f0 : rdNew (wSta s) 1 used = .ok s.name := new_at rfl hs.name hu
  have f1 : rdField (wSta s) 2 "antennas" 1 3 = .ok s.antennas := fld_ok rfl (by decide +kernel) rfl (by omega) (by omega)
  have f2 : rdField (wSta s) 4 "turn" 0 60 = .ok s.turn := fld_ok rfl (by decide +kernel) rfl (by omega) (by omega)
  simp only [rdSta, f0, f1, f2, seq2_okv]
theorem rec_ok {s : RecD} (hs : RecOk W s) (hh : W.horizon ≤ 500) (hn : NameOk (satN W s.sat)) (hm : satN W s.sat ∈ sats) (hu : s.name ∉ used) : rdRec (wRec W s) W.horizon sats used = .ok s.name := by
  have b1 := hs.earliest
  have b2 := hs.latest
  have b3 := hs.length
  have b4 := hs.size
  have b5 := hs.energy
  have b6 := hs.worth
  have b7 := hs.rank
  have b8 := hs.deadline
  have f0 : rdNew (wRec W s) 1 used = .ok s.name := new_at rfl hs.name hu
  have c1 : rdChoice (wRec W s) 2 ["by"] = .ok (Str.ofString "by") := choice_at rfl (by decide +kernel)
  have k1 : rdKnown (wRec W s) 3 sats 0 = .ok (idxS (satN W s.sat) sats) := known_at rfl hn hm
  have f1 : rdField (wRec W s) 4 "from" 0 (W.horizon - 1) = .ok s.earliest := fld_ok rfl (by decide +kernel) rfl (by omega) (by omega)
  have f2 : rdField (wRec W s) 6 "to" s.earliest (if W.horizon - 1 < s.earliest + 20 then W.horizon - 1 else s.earliest + 20) = .ok s.latest := fld_ok rfl (by decide +kernel) rfl (by omega) (by split <;> omega)
  have f3 : rdField (wRec W s) 8 "length" 1 (W.horizon - s.latest) = .ok s.length := fld_ok rfl (by decide +kernel) rfl (by omega) (by omega)
  have f4 : rdField (wRec W s) 10 "size" 0 1000000 = .ok s.size := fld_ok rfl (by decide +kernel) rfl (by omega) (by omega)
  have f5 : rdField (wRec W s) 12 "energy" 0 1000000 = .ok s.energy := fld_ok rfl (by decide +kernel) rfl (by omega) (by omega)
  have f6 : rdField (wRec W s) 14 "worth" 1 1000 = .ok s.worth := fld_ok rfl (by decide +kernel) rfl (by omega) (by omega)
  have f7 : rdField (wRec W s) 16 "rank" 1 3 = .ok s.rank := fld_ok rfl (by decide +kernel) rfl (by omega) (by omega)
  have f8 : rdField (wRec W s) 18 "until" 0 W.horizon = .ok s.deadline := fld_ok rfl (by decide +kernel) rfl (by omega) (by omega)
  simp only [rdRec, f0, c1, k1, f1, f2, f3, f4, f5, f6, f7, f8, seq2_okv]
theorem pas_ok {s : PasD} (hs : PasOk W s) (hh : W.horizon ≤ 500) (hn : NameOk (satN W s.sat)) (hm : satN W s.sat ∈ sats) (hn2 : NameOk (staN W s.sta)) (hm2 : staN W s.sta ∈ stas) (hu : s.name ∉ used) : rdPas (wPas W s) W.horizon sats stas used = .ok s.name := by
  have b1 := hs.first
  have b2 := hs.fin
  have b3 := hs.room
  have b4 := hs.energy
  have b5 := hs.fee
  have f0 : rdNew (wPas W s) 1 used = .ok s.name := new_at rfl hs.name hu
  have c1 : rdChoice (wPas W s) 2 ["by"] = .ok (Str.ofString "by") := choice_at rfl (by decide +kernel)
  have k1 : rdKnown (wPas W s) 3 sats 0 = .ok (idxS (satN W s.sat) sats) := known_at rfl hn hm
  have c2 : rdChoice (wPas W s) 4 ["over"] = .ok (Str.ofString "over") := choice_at rfl (by decide +kernel)
  have k2 : rdKnown (wPas W s) 5 stas 0 = .ok (idxS (staN W s.sta) stas) := known_at rfl hn2 hm2
  have f1 : rdField (wPas W s) 6 "from" 0 (W.horizon - 1) = .ok s.first := fld_ok rfl (by decide +kernel) rfl (by omega) (by omega)
  have f2 : rdField (wPas W s) 8 "to" (s.first + 1) W.horizon = .ok s.fin := fld_ok rfl (by decide +kernel) rfl (by omega) (by omega)
  have f3 : rdField (wPas W s) 10 "room" 0 1000000 = .ok s.room := fld_ok rfl (by decide +kernel) rfl (by omega) (by omega)
  have f4 : rdField (wPas W s) 12 "energy" 0 1000000 = .ok s.energy := fld_ok rfl (by decide +kernel) rfl (by omega) (by omega)
  have f5 : rdField (wPas W s) 14 "fee" 0 1000 = .ok s.fee := fld_ok rfl (by decide +kernel) rfl (by omega) (by omega)
  simp only [rdPas, f0, c1, k1, c2, k2, f1, f2, f3, f4, f5, seq2_okv]
theorem fresh_of {pre suf : List Str} {x : Str} (h : (pre ++ x :: suf).Nodup) : x ∉ pre := fun z => by
  have := (List.nodup_append.mp h).2.2 x z x List.mem_cons_self
  exact this rfl
theorem nodup_shift {pre suf : List Str} {x : Str} (h : (pre ++ x :: suf).Nodup) : ((pre ++ [x]) ++ suf).Nodup := by
  rw [List.append_assoc]
  exact h
section
variable {S T R P : List Str}
theorem run_sats (hh : h ≤ 500) : ∀ (suf : List SatD) (pre : List Str) (n : Int) (rest : List (List Str)), pre.length + suf.length ≤ 3 → (pre ++ suf.map (·.name)).Nodup → (∀ s ∈ suf, SatOk h s) → rdAll h (suf.map wSat ++ rest) n 0 [pre, [], [], []] = rdAll h rest (n + suf.length) 0 [pre ++ suf.map (·.name), [], [], []]
  | [], pre, n, rest, _, _, _ => by
    show rdAll h rest n 0 _ = rdAll h rest (n + 0) 0 [pre ++ [], [], [], []]
    rw [List.append_nil, Int.add_zero]
  | s :: t, pre, n, rest, hl, hn, hs => by
    rw [List.length_cons] at hl
    have h1 : rdSort (wSat s) 0 [pre, [], [], []] = .ok 0 := sort_at (x := Str.ofString "satellite") rfl (by decide +kernel) (by decide +kernel) (by decide +kernel) (by decide) (by show ((pre.length : Nat) : Int) ≠ 3; omega)
    have h2 : rdKind 0 (wSat s) h [pre, [], [], []] = .ok s.name := sat_ok (hs s List.mem_cons_self) hh (fresh_of hn)
    rw [show (s :: t).map wSat ++ rest = wSat s :: (t.map wSat ++ rest) from rfl, all_ok (line_ok h1 h2 (Nat.lt_irrefl _))]
    show rdAll h (t.map wSat ++ rest) (n + 1) 0 [pre ++ [s.name], [], [], []] = _
    rw [run_sats hh t (pre ++ [s.name]) (n + 1) rest (by rw [List.length_append, List.length_singleton]; omega) (nodup_shift hn) fun x hx => hs x (List.mem_cons_of_mem _ hx), List.append_assoc]
    rw [show n + 1 + (t.length : Int) = n + ((s :: t).length : Int) by rw [List.length_cons]; omega]
    rfl
theorem run_stas : ∀ (suf : List StaD) (pre : List Str) (n : Int) (k : Nat), k ≤ 1 → pre.length + suf.length ≤ 3 → (pre ++ suf.map (·.name)).Nodup → (∀ s ∈ suf, StaOk s) → ∃ k', k' ≤ 1 ∧ ∀ rest, rdAll h (suf.map wSta ++ rest) n k [S, pre, [], []] = rdAll h rest (n + suf.length) k' [S, pre ++ suf.map (·.name), [], []]
  | [], pre, n, k, hk, _, _, _ => ⟨k, hk, fun rest => by
    show rdAll h rest n k _ = rdAll h rest (n + 0) k [S, pre ++ [], [], []]
    rw [List.append_nil, Int.add_zero]⟩
  | s :: t, pre, n, k, hk, hl, hn, hs => by
    rw [List.length_cons] at hl
    have h1 : rdSort (wSta s) k [S, pre, [], []] = .ok 1 := sort_at (x := Str.ofString "station") rfl (by decide +kernel) (by decide +kernel) (by decide +kernel) (by omega) (by show ((pre.length : Nat) : Int) ≠ 3; omega)
    have h2 : rdKind 1 (wSta s) h [S, pre, [], []] = .ok s.name := sta_ok (hs s List.mem_cons_self) (fresh_of hn)
    obtain ⟨k', hk', ih⟩ := run_stas t (pre ++ [s.name]) (n + 1) 1 (Nat.le_refl _) (by rw [List.length_append, List.length_singleton]; omega) (nodup_shift hn) fun x hx => hs x (List.mem_cons_of_mem _ hx)
    refine ⟨k', hk', fun rest => ?_⟩
    rw [show (s :: t).map wSta ++ rest = wSta s :: (t.map wSta ++ rest) from rfl, all_ok (line_ok h1 h2 (by show ¬ 6 < 6; decide))]
    show rdAll h (t.map wSta ++ rest) (n + 1) 1 [S, pre ++ [s.name], [], []] = _
    rw [ih rest, List.append_assoc, show n + 1 + (t.length : Int) = n + ((s :: t).length : Int) by rw [List.length_cons]; omega]
    rfl
theorem run_recs (hh : W.horizon ≤ 500) (hS : ∀ i, i < W.sats.length → satN W i ∈ S ∧ NameOk (satN W i)) : ∀ (suf : List RecD) (pre : List Str) (n : Int) (k : Nat), k ≤ 2 → pre.length + suf.length ≤ 10 → (pre ++ suf.map (·.name)).Nodup → (∀ s ∈ suf, RecOk W s) → ∃ k', k' ≤ 2 ∧ ∀ rest, rdAll W.horizon (suf.map (wRec W) ++ rest) n k [S, T, pre, []] = rdAll W.horizon rest (n + suf.length) k' [S, T, pre ++ suf.map (·.name), []]
  | [], pre, n, k, hk, _, _, _ => ⟨k, hk, fun rest => by
    show rdAll W.horizon rest n k _ = rdAll W.horizon rest (n + 0) k [S, T, pre ++ [], []]
    rw [List.append_nil, Int.add_zero]⟩
  | s :: t, pre, n, k, hk, hl, hn, hs => by
    rw [List.length_cons] at hl
    have hs0 := hs s List.mem_cons_self
    have h1 : rdSort (wRec W s) k [S, T, pre, []] = .ok 2 := sort_at (x := Str.ofString "recording") rfl (by decide +kernel) (by decide +kernel) (by decide +kernel) (by omega) (by show ((pre.length : Nat) : Int) ≠ 10; omega)
    have h2 : rdKind 2 (wRec W s) W.horizon [S, T, pre, []] = .ok s.name := rec_ok hs0 hh (hS _ hs0.sat).2 (hS _ hs0.sat).1 (fresh_of hn)
    obtain ⟨k', hk', ih⟩ := run_recs hh hS t (pre ++ [s.name]) (n + 1) 2 (Nat.le_refl _) (by rw [List.length_append, List.length_singleton]; omega) (nodup_shift hn) fun x hx => hs x (List.mem_cons_of_mem _ hx)
    refine ⟨k', hk', fun rest => ?_⟩
    rw [show (s :: t).map (wRec W) ++ rest = wRec W s :: (t.map (wRec W) ++ rest) from rfl, all_ok (line_ok h1 h2 (by show ¬ 20 < 20; decide))]
    show rdAll W.horizon (t.map (wRec W) ++ rest) (n + 1) 2 [S, T, pre ++ [s.name], []] = _
    rw [ih rest, List.append_assoc, show n + 1 + (t.length : Int) = n + ((s :: t).length : Int) by rw [List.length_cons]; omega]
    rfl
theorem run_pass (hh : W.horizon ≤ 500) (hS : ∀ i, i < W.sats.length → satN W i ∈ S ∧ NameOk (satN W i)) (hT : ∀ i, i < W.stas.length → staN W i ∈ T ∧ NameOk (staN W i)) : ∀ (suf : List PasD) (pre : List Str) (n : Int) (k : Nat), k ≤ 3 → pre.length + suf.length ≤ 10 → (pre ++ suf.map (·.name)).Nodup → (∀ s ∈ suf, PasOk W s) → rdAll W.horizon (suf.map (wPas W)) n k [S, T, R, pre] = .ok ()
  | [], pre, n, k, hk, _, _, _ => rfl
  | s :: t, pre, n, k, hk, hl, hn, hs => by
    rw [List.length_cons] at hl
    have hs0 := hs s List.mem_cons_self
    have h1 : rdSort (wPas W s) k [S, T, R, pre] = .ok 3 := sort_at (x := Str.ofString "pass") rfl (by decide +kernel) (by decide +kernel) (by decide +kernel) (by omega) (by show ((pre.length : Nat) : Int) ≠ 10; omega)
    have h2 : rdKind 3 (wPas W s) W.horizon [S, T, R, pre] = .ok s.name := pas_ok hs0 hh (hS _ hs0.sat).2 (hS _ hs0.sat).1 (hT _ hs0.sta).2 (hT _ hs0.sta).1 (fresh_of hn)
    rw [show (s :: t).map (wPas W) = wPas W s :: t.map (wPas W) from rfl, all_ok (line_ok h1 h2 (by show ¬ 16 < 16; decide))]
    show rdAll W.horizon (t.map (wPas W)) (n + 1) 3 [S, T, R, pre ++ [s.name]] = _
    exact run_pass hh hS hT t (pre ++ [s.name]) (n + 1) 3 (Nat.le_refl _) (by rw [List.length_append, List.length_singleton]; omega) (nodup_shift hn) fun x hx => hs x (List.mem_cons_of_mem _ hx)
end
theorem satN_mem {i : Nat} (h : i < W.sats.length) : satN W i ∈ W.sats.map (·.name) ∧ ∃ s ∈ W.sats, satN W i = s.name := by
  have e : satN W i = (W.sats[i]).name := by
    unfold satN
    rw [List.getElem?_map, List.getElem?_eq_getElem h]
    rfl
  rw [e]
  exact ⟨List.mem_map.mpr ⟨_, List.getElem_mem h, rfl⟩, _, List.getElem_mem h, rfl⟩
theorem staN_mem {i : Nat} (h : i < W.stas.length) : staN W i ∈ W.stas.map (·.name) ∧ ∃ s ∈ W.stas, staN W i = s.name := by
  have e : staN W i = (W.stas[i]).name := by
    unfold staN
    rw [List.getElem?_map, List.getElem?_eq_getElem h]
    rfl
  rw [e]
  exact ⟨List.mem_map.mpr ⟨_, List.getElem_mem h, rfl⟩, _, List.getElem_mem h, rfl⟩
/-- the lines of a world behind the first -/
def restL (W : WorldD) : List (List Str) := W.sats.map wSat ++ W.stas.map wSta ++ W.recs.map (wRec W) ++ W.pass.map (wPas W)
theorem hor_okL (w : WorldOk W) : (seq2 (rdField (wHor W.horizon) 0 "horizon" 1 500) fun h => seq2 (rdFinish (wHor W.horizon) 2) fun _ => .ok h) = (.ok W.horizon : Rd Int) := by
  have hh := w.horizon
  have f : rdField (wHor W.horizon) 0 "horizon" 1 500 = .ok W.horizon := fld_ok rfl (by decide +kernel) rfl (by omega) (by omega)
  rw [f, seq2_okv]
  rfl
theorem rest_ok (w : WorldOk W) : rdAll W.horizon (restL W) 2 0 [[], [], [], []] = .ok () := by
  have hh := w.horizon.2
  have n1 := w.nSats
  have n2 := w.nStas
  have n3 := w.nRecs
  have n4 := w.nPass
  have hS : ∀ i, i < W.sats.length → satN W i ∈ [] ++ W.sats.map (·.name) ∧ NameOk (satN W i) := fun i hi => by
    obtain ⟨m, s, hs, e⟩ := satN_mem hi
    exact ⟨m, by rw [e]; exact (w.sats s hs).name⟩
  have hT : ∀ i, i < W.stas.length → staN W i ∈ [] ++ W.stas.map (·.name) ∧ NameOk (staN W i) := fun i hi => by
    obtain ⟨m, s, hs, e⟩ := staN_mem hi
    exact ⟨m, by rw [e]; exact (w.stas s hs).name⟩
  unfold restL
  rw [List.append_assoc, List.append_assoc, run_sats hh W.sats [] 2 _ (by show 0 + _ ≤ 3; omega) w.dSats w.sats]
  obtain ⟨k1, hk1, e1⟩ := run_stas (S := [] ++ W.sats.map (·.name)) (h := W.horizon) W.stas [] (2 + W.sats.length) 0 (by decide) (by show 0 + _ ≤ 3; omega) w.dStas w.stas
  rw [e1]
  obtain ⟨k2, hk2, e2⟩ := run_recs (T := [] ++ W.stas.map (·.name)) hh hS W.recs [] (2 + W.sats.length + W.stas.length) k1 (by omega) (by show 0 + _ ≤ 10; omega) w.dRecs w.recs
  rw [e2]
  exact run_pass hh hS hT W.pass [] _ k2 (by omega) (by show 0 + _ ≤ 10; omega) w.dPass w.pass
/-- how far the lines ahead of one are read -/
theorem all_pre {h : Int} {x : List Str} {B : List (List Str)} : ∀ (A : List (List Str)) (n : Int) (k : Nat) (N : List (List Str)), rdAll h (A ++ x :: B) n k N = .ok () → ∃ k' N', (∃ s, rdLine h k' N' x = .ok s) ∧ ∀ x' e, rdLine h k' N' x' = .error e → rdAll h (A ++ x' :: B) n k N = .error (n + A.length, colW x' e.1, e.2)
  | [], n, k, N, hok => by
    refine ⟨k, N, ?_, fun x' e he => ?_⟩
    · have hok : (match rdLine h k N x with | .error e => Except.error (n, colW x e.1, e.2) | .ok s => rdAll h B (n + 1) s.1 s.2) = .ok () := hok
      cases e : rdLine h k N x with
      | error y => rw [e] at hok; cases hok
      | ok s => exact ⟨s, rfl⟩
    · show rdAll h (x' :: B) n k N = .error (n + 0, colW x' e.1, e.2)
      rw [all_err he, Int.add_zero]
  | a :: A, n, k, N, hok => by
    have hok : (match rdLine h k N a with | .error e => Except.error (n, colW a e.1, e.2) | .ok s => rdAll h (A ++ x :: B) (n + 1) s.1 s.2) = .ok () := hok
    cases e : rdLine h k N a with
    | error y => rw [e] at hok; cases hok
    | ok s =>
      rw [e] at hok
      obtain ⟨k', N', h1, h2⟩ := all_pre A (n + 1) s.1 s.2 hok
      refine ⟨k', N', h1, fun x' er he => ?_⟩
      show rdAll h (a :: (A ++ x' :: B)) n k N = _
      rw [all_ok e, h2 x' er he, List.length_cons, show n + 1 + (A.length : Int) = n + ((A.length + 1 : Nat) : Int) by omega]
theorem cut_at3 {α : Type} {l : List α} {i : Nat} {x : α} (h : l[i]? = some x) : l.take i ++ x :: l.drop (i + 1) = l := by
  obtain ⟨hi, e⟩ := List.getElem?_eq_some_iff.mp h
  rw [← e, List.getElem_cons_drop, List.take_append_drop]
/-- one line of a world changed: what is told of it -/
theorem line_chg (w : WorldOk W) {i : Nat} {x : List Str} (hi : (restL W)[i]? = some x) : ∃ k N, (∃ s, rdLine W.horizon k N x = .ok s) ∧ ∀ x' e, rdLine W.horizon k N x' = .error e → rdText ((linesW W).set (i + 1) x') Str.empty = .error ((i : Int) + 2, colW x' e.1, e.2) := by
  have hl := (List.getElem?_eq_some_iff.mp hi).1
  have hc := cut_at3 hi
  have hok := rest_ok w
  rw [← hc] at hok
  obtain ⟨k, N, h1, h2⟩ := all_pre _ _ _ _ hok
  refine ⟨k, N, h1, fun x' e he => ?_⟩
  have e1 : (linesW W).set (i + 1) x' = wHor W.horizon :: ((restL W).take i ++ x' :: (restL W).drop (i + 1)) := by
    show (wHor W.horizon :: restL W).set (i + 1) x' = _
    rw [List.set_cons_succ, List.set_eq_take_append_cons_drop, if_pos hl]
  unfold rdText
  rw [e1, if_pos rfl]
  show (match seq2 (rdField (wHor W.horizon) 0 "horizon" 1 500) fun h => seq2 (rdFinish (wHor W.horizon) 2) fun _ => .ok h with
    | .error e => Except.error (1, colW (wHor W.horizon) e.1, e.2)
    | .ok h => match rdAll h ((restL W).take i ++ x' :: (restL W).drop (i + 1)) 2 0 [[], [], [], []] with
      | .error f => .error f
      | .ok _ => .ok h) = _
  rw [hor_okL w]
  dsimp only
  rw [h2 x' e he, List.length_take, Nat.min_eq_left (Nat.le_of_lt hl)]
  rw [show (2 : Int) + (i : Int) = (i : Int) + 2 by omega]
end
end DP
namespace DP
open PySem PySem.Spec PyProof.Rows L2
theorem sort_idx {ws : List Str} {k i : Nat} {N : List (List Str)} {u : Str} (h : rdSort ws k N = .ok i) (hu : ws[0]? = some u) : i = idxS u sortsL := by
  unfold rdSort at h
  cases e : rdDue ws 0 with
  | error x => rw [e] at h; cases h
  | ok v =>
    rw [e, seq2_okv] at h
    have := (rdDue_ok e).1
    rw [hu] at this
    have ev : u = v := Option.some.inj this
    subst ev
    split at h
    · split at h
      · cases h
      · split at h
        · cases h
        · cases h
          rfl
    · cases h
theorem finish_more {ws : List Str} {r : Nat} (h : ws[r]? = some (Str.ofString "more")) : rdFinish ws r = .error (r, unW3) := by
  unfold rdFinish
  rw [if_pos (List.getElem?_eq_some_iff.mp h).1, due_at h (by decide +kernel)]
section
variable {h : Int} {k i : Nat} {N : List (List Str)} {ws x : List Str} {s : Nat × List (List Str)}
theorem line_parts (hok : rdLine h k N ws = .ok s) : ∃ i nm, rdSort ws k N = .ok i ∧ rdKind i ws h N = .ok nm := by
  unfold rdLine at hok
  cases e1 : rdSort ws k N with
  | error y => rw [e1] at hok; cases hok
  | ok i =>
    rw [e1, seq2_okv] at hok
    cases e2 : rdKind i ws h N with
    | error y => rw [e2] at hok; cases hok
    | ok nm => exact ⟨i, nm, rfl, e2⟩
/-- a line of a fixed number of words -/
theorem fix_cut {fin p : Nat} {ρ : Nat → Str} {f : List Str → Rd Str} {nm why : Str} (hs : rdSort ws k N = .ok i) (hk : ∀ ws, rdKind i ws h N = f ws) (hP : Pfx f 1 fin ρ) (h0 : ρ 0 = unW3) (hf : f ws = .ok nm) (hp : p < fin) (hag : ∀ j, j < p → ws[j]? = x[j]?) (hb : Bad (ρ p) x[p]? why) : rdLine h k N x = .error (p, why) := by
  unfold rdLine
  by_cases c : p < 1
  · exact seq2_err ((pfx_sort (k := k) (N := N) h0).cut ws i x p why hs (Nat.zero_le _) c hag hb)
  · rw [← (pfx_sort (k := k) (N := N) h0).ext ws x fun j hj => hag j (by omega), hs, seq2_okv, hk]
    exact seq2_err (hP.cut ws nm x p why hf (by omega) hp hag hb)
theorem fix_more {fin : Nat} {ρ : Nat → Str} {f : List Str → Rd Str} {nm : Str} (hs : rdSort ws k N = .ok i) (hk : ∀ ws, rdKind i ws h N = f ws) (hP : Pfx f 1 fin ρ) (h0 : ρ 0 = unW3) (hf : f ws = .ok nm) (hfin : ∀ ws, finK i ws = fin) (hag : ∀ j, j < fin → ws[j]? = x[j]?) (hb : x[fin]? = some (Str.ofString "more")) (h1 : 1 ≤ fin) : rdLine h k N x = .error (fin, unW3) := by
  unfold rdLine
  rw [← (pfx_sort (k := k) (N := N) h0).ext ws x fun j hj => hag j (by omega), hs, seq2_okv, hk, ← hP.ext ws x hag, hf, seq2_okv, hfin, finish_more hb]
  rfl
theorem sat_cut {p : Nat} {nm why : Str} (hs : rdSort ws k N = .ok 0) (hf : rdSat ws h (nmsAt N 0) = .ok nm) (hl : p ≤ ws.length) (hag : ∀ j, j < p → ws[j]? = x[j]?) (hev : (p - 15) % 2 = 0 → 15 ≤ p → p < x.length)
    (hb : (p < 15 ∧ Bad (ρSat p) x[p]? why) ∨ (15 ≤ p ∧ LBad x[p]? why ∧ p < 15 + 2 * x.length)) : rdLine h k N x = .error (p, why) := by
  unfold rdLine
  by_cases c : p < 1
  · rcases hb with ⟨_, hb⟩ | ⟨z, _⟩
    · exact seq2_err ((pfx_sort (k := k) (N := N) rfl).cut ws 0 x p why hs (Nat.zero_le _) c hag hb)
    · omega
  rw [← (pfx_sort (ρ := ρSat) (k := k) (N := N) rfl).ext ws x fun j hj => hag j (by omega), hs, seq2_okv]
  refine seq2_err ?_
  show rdSat x h (nmsAt N 0) = _
  rw [sat_split] at hf ⊢
  cases e : rdSatF ws (nmsAt N 0) with
  | error y => rw [e] at hf; cases hf
  | ok nm1 =>
    rw [e, seq2_okv] at hf
    rcases hb with ⟨c2, hb⟩ | ⟨c2, hb, c3⟩
    · exact seq2_err (pfx_satF.cut ws nm1 x p why e (by omega) c2 hag hb)
    · rw [← pfx_satF.ext ws x fun j hj => hag j (by omega), e, seq2_okv]
      have li : rdLight ws h ws.length 15 0 = .ok () := by
        cases e2 : rdLight ws h ws.length 15 0 with
        | error y => rw [e2] at hf; cases hf
        | ok _ => rfl
      exact seq2_err (light_cut hag hb hl x.length ws.length 15 0 li (by omega) c2 c3 fun z => hev z c2)
end
/-- the reason at a place of a line -/
def ρL (w0 : Str) (p : Nat) : Str := if w0 = Str.ofString "horizon" then ρHor p else if w0 = Str.ofString "satellite" then ρSat p else if w0 = Str.ofString "station" then ρSta p else if w0 = Str.ofString "recording" then ρRec p else ρPas p
theorem ρL_hor {p : Nat} : ρL (Str.ofString "horizon") p = ρHor p := if_pos rfl
theorem ρL_sat {p : Nat} : ρL (Str.ofString "satellite") p = ρSat p := by unfold ρL; rw [if_neg (by decide +kernel), if_pos rfl]
theorem ρL_sta {p : Nat} : ρL (Str.ofString "station") p = ρSta p := by unfold ρL; rw [if_neg (by decide +kernel), if_neg (by decide +kernel), if_pos rfl]
theorem ρL_rec {p : Nat} : ρL (Str.ofString "recording") p = ρRec p := by unfold ρL; rw [if_neg (by decide +kernel), if_neg (by decide +kernel), if_neg (by decide +kernel), if_pos rfl]
theorem ρL_pas {p : Nat} : ρL (Str.ofString "pass") p = ρPas p := by unfold ρL; rw [if_neg (by decide +kernel), if_neg (by decide +kernel), if_neg (by decide +kernel), if_neg (by decide +kernel)]
/-- the five sorts of lines: the first word, how many words -/
inductive LK (W : WorldD) : Nat → List Str → Prop
  | hor : LK W 0 (wHor W.horizon)
  | sat {i : Nat} {s : SatD} : (restL W)[i]? = some (wSat s) → SatOk W.horizon s → LK W (i + 1) (wSat s)
  | sta {i : Nat} {s : StaD} : (restL W)[i]? = some (wSta s) → StaOk s → LK W (i + 1) (wSta s)
  | rec_ {i : Nat} {s : RecD} : (restL W)[i]? = some (wRec W s) → LK W (i + 1) (wRec W s)
  | pas {i : Nat} {s : PasD} : (restL W)[i]? = some (wPas W s) → LK W (i + 1) (wPas W s)
theorem lk_of {W : WorldD} (w : WorldOk W) : ∀ {i : Nat} {ws : List Str}, (linesW W)[i]? = some ws → LK W i ws
  | 0, ws, h => by
    have e : wHor W.horizon = ws := Option.some.inj h
    rw [← e]
    exact .hor
  | i + 1, ws, h => by
    have h : (restL W)[i]? = some ws := h
    have hm := List.mem_of_getElem? h
    unfold restL at hm
    rcases List.mem_append.mp hm with hm | hm
    · rcases List.mem_append.mp hm with hm | hm
      · rcases List.mem_append.mp hm with hm | hm
        · obtain ⟨s, hs, rfl⟩ := List.mem_map.mp hm
          exact .sat h (w.sats s hs)
        · obtain ⟨s, hs, rfl⟩ := List.mem_map.mp hm
          exact .sta h (w.stas s hs)
      · obtain ⟨s, hs, rfl⟩ := List.mem_map.mp hm
        exact .rec_ h
    · obtain ⟨s, hs, rfl⟩ := List.mem_map.mp hm
      exact .pas h
section
variable {W : WorldD}
theorem hor_chg (w : WorldOk W) {x : List Str} {e : Er} (he : (seq2 (rdField x 0 "horizon" 1 500) fun h => seq2 (rdFinish x 2) fun _ => .ok h) = (.error e : Rd Int)) : rdText ((linesW W).set 0 x) Str.empty = .error (1, colW x e.1, e.2) := by
  unfold rdText
  rw [if_pos rfl]
  show (match seq2 (rdField x 0 "horizon" 1 500) fun h => seq2 (rdFinish x 2) fun _ => .ok h with
    | .error e => Except.error (1, colW x e.1, e.2)
    | .ok h => match rdAll h (restL W) 2 0 [[], [], [], []] with
      | .error f => .error f
      | .ok _ => .ok h) = _
  rw [he]
theorem pfx_hor : Pfx (fun ws => rdField ws 0 "horizon" 1 500) 0 2 ρHor := pfx_field (by decide +kernel) rfl rfl
theorem hor_fld (w : WorldOk W) : rdField (wHor W.horizon) 0 "horizon" 1 500 = .ok W.horizon := by
  have hh := w.horizon
  exact fld_ok rfl (by decide +kernel) rfl (by omega) (by omega)
theorem num2 {i : Nat} : ((i : Int) + 2) = ((i + 1 : Nat) : Int) + 1 := by omega
/-- a word changed, or the line cut -/
theorem chg_cut (w : WorldOk W) {i p : Nat} {ws x : List Str} {w0 why : Str} (K : LK W i ws) (h0 : ws[0]? = some w0) (hp : p < ws.length) (hag : ∀ j, j < p → ws[j]? = x[j]?) (hx : x.length = ws.length ∨ x.length = p) (hb : Bad (ρL w0 p) x[p]? why)
    (hev : x.length = p → w0 = Str.ofString "satellite" → 15 ≤ p → p % 2 = 0) : rdText ((linesW W).set i x) Str.empty = .error ((i : Int) + 1, colW x p, why) := by
  cases K with
  | hor =>
    have ew : Str.ofString "horizon" = w0 := Option.some.inj h0
    subst ew
    rw [ρL_hor] at hb
    exact hor_chg w (e := (p, why)) (seq2_err (pfx_hor.cut _ _ x p why (hor_fld w) (Nat.zero_le _) hp hag hb))
  | @sat i s hi so =>
    have ew : Str.ofString "satellite" = w0 := Option.some.inj h0
    subst ew
    rw [ρL_sat] at hb
    obtain ⟨k, N, ⟨s1, hok⟩, hch⟩ := line_chg w hi
    obtain ⟨i0, nm, e1, e2⟩ := line_parts hok
    have ei := sort_idx e1 h0
    rw [show idxS (Str.ofString "satellite") sortsL = 0 by decide +kernel] at ei
    subst ei
    rw [← num2]
    refine hch x (p, why) (sat_cut e1 e2 (Nat.le_of_lt hp) hag (fun z1 z2 => ?_) ?_)
    · rcases hx with hx | hx
      · omega
      · have := hev hx rfl z2
        omega
    · by_cases c : p < 15
      · exact .inl ⟨c, hb⟩
      · refine .inr ⟨by omega, hb.l (by unfold ρSat; rw [if_neg (by omega), if_pos (by omega)]), by rcases hx with hx | hx <;> omega⟩
  | @sta i s hi so =>
    have ew : Str.ofString "station" = w0 := Option.some.inj h0
    subst ew
    rw [ρL_sta] at hb
    obtain ⟨k, N, ⟨s1, hok⟩, hch⟩ := line_chg w hi
    obtain ⟨i0, nm, e1, e2⟩ := line_parts hok
    have ei := sort_idx e1 h0
    rw [show idxS (Str.ofString "station") sortsL = 1 by decide +kernel] at ei
    subst ei
    rw [← num2]
    exact hch x (p, why) (fix_cut (f := fun ws => rdSta ws (nmsAt N 1)) (nm := nm) e1 (fun _ => rfl) pfx_sta rfl e2 hp hag hb)
  | @rec_ i s hi =>
    have ew : Str.ofString "recording" = w0 := Option.some.inj h0
    subst ew
    rw [ρL_rec] at hb
    obtain ⟨k, N, ⟨s1, hok⟩, hch⟩ := line_chg w hi
    obtain ⟨i0, nm, e1, e2⟩ := line_parts hok
    have ei := sort_idx e1 h0
    rw [show idxS (Str.ofString "recording") sortsL = 2 by decide +kernel] at ei
    subst ei
    rw [← num2]
    exact hch x (p, why) (fix_cut (f := fun ws => rdRec ws W.horizon (nmsAt N 0) (nmsAt N 2)) (nm := nm) e1 (fun _ => rfl) pfx_rec rfl e2 hp hag hb)
  | @pas i s hi =>
    have ew : Str.ofString "pass" = w0 := Option.some.inj h0
    subst ew
    rw [ρL_pas] at hb
    obtain ⟨k, N, ⟨s1, hok⟩, hch⟩ := line_chg w hi
    obtain ⟨i0, nm, e1, e2⟩ := line_parts hok
    have ei := sort_idx e1 h0
    rw [show idxS (Str.ofString "pass") sortsL = 3 by decide +kernel] at ei
    subst ei
    rw [← num2]
    exact hch x (p, why) (fix_cut (f := fun ws => rdPas ws W.horizon (nmsAt N 0) (nmsAt N 1) (nmsAt N 3)) (nm := nm) e1 (fun _ => rfl) pfx_pas rfl e2 hp hag hb)
/-- one more word -/
theorem chg_more (w : WorldOk W) {i : Nat} {ws : List Str} {w0 : Str} (K : LK W i ws) (h0 : ws[0]? = some w0) : rdText ((linesW W).set i (ws ++ [Str.ofString "more"])) Str.empty = .error ((i : Int) + 1, colW (ws ++ [Str.ofString "more"]) ws.length, if w0 = Str.ofString "satellite" then nuE3 else unW3) := by
  have hag : ∀ j, j < ws.length → ws[j]? = (ws ++ [Str.ofString "more"])[j]? := fun j hj => (List.getElem?_append_left hj).symm
  have hm : (ws ++ [Str.ofString "more"])[ws.length]? = some (Str.ofString "more") := by rw [List.getElem?_append_right (Nat.le_refl _), Nat.sub_self]; rfl
  cases K with
  | hor =>
    have ew : Str.ofString "horizon" = w0 := Option.some.inj h0
    subst ew
    rw [if_neg (by decide +kernel)]
    refine hor_chg w (e := (2, unW3)) ?_
    have := pfx_hor.ext _ _ hag
    rw [← this, hor_fld w, seq2_okv]
    exact seq2_err (finish_more hm)
  | @sat i s hi so =>
    have ew : Str.ofString "satellite" = w0 := Option.some.inj h0
    subst ew
    rw [if_pos rfl]
    obtain ⟨k, N, ⟨s1, hok⟩, hch⟩ := line_chg w hi
    obtain ⟨i0, nm, e1, e2⟩ := line_parts hok
    have ei := sort_idx e1 h0
    rw [show idxS (Str.ofString "satellite") sortsL = 0 by decide +kernel] at ei
    subst ei
    rw [← num2]
    have hl : (wSat s).length = 15 + 2 * s.light.length := wSat_len
    have hl2 : (wSat s ++ [Str.ofString "more"]).length = (wSat s).length + 1 := by rw [List.length_append, List.length_singleton]
    exact hch _ ((wSat s).length, nuE3) (sat_cut e1 e2 (Nat.le_refl _) hag (fun _ _ => by omega) (.inr ⟨by omega, .inr (.inr ⟨_, hm, by decide +kernel, by decide +kernel, rfl⟩), by omega⟩))
  | @sta i s hi so =>
    have ew : Str.ofString "station" = w0 := Option.some.inj h0
    subst ew
    rw [if_neg (by decide +kernel)]
    obtain ⟨k, N, ⟨s1, hok⟩, hch⟩ := line_chg w hi
    obtain ⟨i0, nm, e1, e2⟩ := line_parts hok
    have ei := sort_idx e1 h0
    rw [show idxS (Str.ofString "station") sortsL = 1 by decide +kernel] at ei
    subst ei
    rw [← num2]
    exact hch _ (6, unW3) (fix_more (f := fun ws => rdSta ws (nmsAt N 1)) (nm := nm) e1 (fun _ => rfl) pfx_sta rfl e2 (fun _ => rfl) hag hm (by decide))
  | @rec_ i s hi =>
    have ew : Str.ofString "recording" = w0 := Option.some.inj h0
    subst ew
    rw [if_neg (by decide +kernel)]
    obtain ⟨k, N, ⟨s1, hok⟩, hch⟩ := line_chg w hi
    obtain ⟨i0, nm, e1, e2⟩ := line_parts hok
    have ei := sort_idx e1 h0
    rw [show idxS (Str.ofString "recording") sortsL = 2 by decide +kernel] at ei
    subst ei
    rw [← num2]
    exact hch _ (20, unW3) (fix_more (f := fun ws => rdRec ws W.horizon (nmsAt N 0) (nmsAt N 2)) (nm := nm) e1 (fun _ => rfl) pfx_rec rfl e2 (fun _ => rfl) hag hm (by decide))
  | @pas i s hi =>
    have ew : Str.ofString "pass" = w0 := Option.some.inj h0
    subst ew
    rw [if_neg (by decide +kernel)]
    obtain ⟨k, N, ⟨s1, hok⟩, hch⟩ := line_chg w hi
    obtain ⟨i0, nm, e1, e2⟩ := line_parts hok
    have ei := sort_idx e1 h0
    rw [show idxS (Str.ofString "pass") sortsL = 3 by decide +kernel] at ei
    subst ei
    rw [← num2]
    exact hch _ (16, unW3) (fix_more (f := fun ws => rdPas ws W.horizon (nmsAt N 0) (nmsAt N 1) (nmsAt N 3)) (nm := nm) e1 (fun _ => rfl) pfx_pas rfl e2 (fun _ => rfl) hag hm (by decide))
/-- the line without a word -/
theorem chg_none (w : WorldOk W) {i : Nat} {ws : List Str} (K : LK W i ws) : rdText ((linesW W).set i [Str.ofString ""]) Str.empty = .error ((i : Int) + 1, 1, emW3) := by
  have hb : ∀ ρ, Bad ρ ([Str.ofString ""])[0]? emW3 := fun ρ => .inr (.inl ⟨rfl, rfl⟩)
  cases K with
  | hor => exact hor_chg w (e := (0, emW3)) (seq2_err (pfx_hor.cut _ _ _ 0 emW3 (hor_fld w) (Nat.le_refl _) (by decide) (fun j hj => absurd hj (Nat.not_lt_zero _)) (hb _)))
  | @sat i s hi so =>
    obtain ⟨k, N, ⟨s1, hok⟩, hch⟩ := line_chg w hi
    obtain ⟨i0, nm, e1, e2⟩ := line_parts hok
    rw [← num2]
    exact hch _ (0, emW3) (seq2_err ((pfx_sort (ρ := ρSat) rfl).cut _ _ _ 0 emW3 e1 (Nat.le_refl _) (by decide) (fun j hj => absurd hj (Nat.not_lt_zero _)) (hb _)))
  | @sta i s hi so =>
    obtain ⟨k, N, ⟨s1, hok⟩, hch⟩ := line_chg w hi
    obtain ⟨i0, nm, e1, e2⟩ := line_parts hok
    rw [← num2]
    exact hch _ (0, emW3) (seq2_err ((pfx_sort (ρ := ρSat) rfl).cut _ _ _ 0 emW3 e1 (Nat.le_refl _) (by decide) (fun j hj => absurd hj (Nat.not_lt_zero _)) (hb _)))
  | @rec_ i s hi =>
    obtain ⟨k, N, ⟨s1, hok⟩, hch⟩ := line_chg w hi
    obtain ⟨i0, nm, e1, e2⟩ := line_parts hok
    rw [← num2]
    exact hch _ (0, emW3) (seq2_err ((pfx_sort (ρ := ρSat) rfl).cut _ _ _ 0 emW3 e1 (Nat.le_refl _) (by decide) (fun j hj => absurd hj (Nat.not_lt_zero _)) (hb _)))
  | @pas i s hi =>
    obtain ⟨k, N, ⟨s1, hok⟩, hch⟩ := line_chg w hi
    obtain ⟨i0, nm, e1, e2⟩ := line_parts hok
    rw [← num2]
    exact hch _ (0, emW3) (seq2_err ((pfx_sort (ρ := ρSat) rfl).cut _ _ _ 0 emW3 e1 (Nat.le_refl _) (by decide) (fun j hj => absurd hj (Nat.not_lt_zero _)) (hb _)))
end
end DP
namespace DP
open PySem PySem.Spec PyProof.Rows L2
abbrev s__law_column : Stmt := topS 53
theorem sc__law_column : FnScope ["words", "place"] ["words", "place"] (defScope s__law_column) := ⟨rfl, rfl, rfl, by decide +kernel, rfl, by decide +kernel, by decide +kernel⟩
abbrev s__law_role : Stmt := topS 54
theorem sc__law_role : FnScope ["words", "place"] ["words", "place"] (defScope s__law_role) := ⟨rfl, rfl, rfl, by decide +kernel, rfl, by decide +kernel, by decide +kernel⟩
def wnJ (m : Nat) : Str := if m = 0 then Str.ofString "word" else Str.ofString "number"
def roleJ (w0 : Str) (p : Nat) : Str :=
  if w0 = Str.ofString "horizon" then wnJ p else if p = 0 then Str.ofString "word" else if p = 1 then Str.ofString "new" else if (w0 = Str.ofString "recording" ∨ w0 = Str.ofString "pass") ∧ p = 3 then Str.ofString "known" else if w0 = Str.ofString "pass" ∧ p = 5 then Str.ofString "known"
  else if w0 = Str.ofString "satellite" ∧ 15 ≤ p then Str.ofString "number" else if w0 = Str.ofString "pass" ∧ 6 ≤ p then wnJ ((p - 6) % 2) else if w0 = Str.ofString "recording" ∧ 4 ≤ p then wnJ ((p - 4) % 2) else wnJ (p % 2)
def whyJ (r : Str) : Str := if r = Str.ofString "word" then unW3 else if r = Str.ofString "number" then nuE3 else naE3
theorem why_wn {m : Nat} : whyJ (wnJ m) = if m = 0 then unW3 else nuE3 := by
  unfold wnJ
  by_cases c : m = 0
  · rw [if_pos c, if_pos c]; decide +kernel
  · rw [if_neg c, if_neg c]; decide +kernel
theorem mod_wn {m : Nat} {x : Str} : (if m % 2 = 0 then unW3 else nuE3) = if m % 2 = 1 then nuE3 else unW3 := by
  by_cases c : m % 2 = 0
  · rw [if_pos c, if_neg (by omega)]
  · rw [if_neg c, if_pos (by omega)]
theorem why_role {W : WorldD} {i p : Nat} {ws : List Str} {w0 : Str} (K : LK W i ws) (h0 : ws[0]? = some w0) (hp : p < ws.length) : whyJ (roleJ w0 p) = ρL w0 p := by
  have w1 : whyJ (Str.ofString "word") = unW3 := by decide +kernel
  have w2 : whyJ (Str.ofString "number") = nuE3 := by decide +kernel
  have w3 : whyJ (Str.ofString "new") = naE3 := by decide +kernel
  have w4 : whyJ (Str.ofString "known") = naE3 := by decide +kernel
  cases K with
  | hor =>
    have ew : Str.ofString "horizon" = w0 := Option.some.inj h0
    subst ew
    have hp : p < 2 := hp
    rw [ρL_hor]
    match p, hp with
    | 0, _ => decide +kernel
    | 1, _ => decide +kernel
  | sat hi so =>
    have ew : Str.ofString "satellite" = w0 := Option.some.inj h0
    subst ew
    rw [ρL_sat]
    unfold roleJ
    have n1 : Str.ofString "satellite" ≠ Str.ofString "horizon" := by decide +kernel
    have n2 : Str.ofString "satellite" ≠ Str.ofString "recording" := by decide +kernel
    have n3 : Str.ofString "satellite" ≠ Str.ofString "pass" := by decide +kernel
    simp only [n1, n2, n3, if_false, false_or, false_and, true_and]
    unfold ρSat
    by_cases c0 : p = 0
    · subst c0; decide +kernel
    by_cases c1 : p = 1
    · subst c1; decide +kernel
    rw [if_neg c0, if_neg c1, if_neg c1]
    by_cases c2 : 15 ≤ p
    · rw [if_pos c2, if_pos c2, w2]
    · rw [if_neg c2, if_neg c2, why_wn, mod_wn (x := unW3)]
  | sta hi so =>
    have ew : Str.ofString "station" = w0 := Option.some.inj h0
    subst ew
    have hp : p < 6 := hp
    rw [ρL_sta]
    match p, hp with
    | 0, _ => decide +kernel
    | 1, _ => decide +kernel
    | 2, _ => decide +kernel
    | 3, _ => decide +kernel
    | 4, _ => decide +kernel
    | 5, _ => decide +kernel
  | rec_ hi =>
    have ew : Str.ofString "recording" = w0 := Option.some.inj h0
    subst ew
    have hp : p < 20 := hp
    rw [ρL_rec]
    have al : ∀ p, p < 20 → whyJ (roleJ (Str.ofString "recording") p) = ρRec p := by decide +kernel
    exact al p hp
  | pas hi =>
    have ew : Str.ofString "pass" = w0 := Option.some.inj h0
    subst ew
    have hp : p < 16 := hp
    rw [ρL_pas]
    have al : ∀ p, p < 16 → whyJ (roleJ (Str.ofString "pass") p) = ρPas p := by decide +kernel
    exact al p hp
section
variable {K : PySem.W.Frag} {σ : L2.St} {H : Hp} {Q : Bool → Hp → Prop} {wp : Addr} {xs : List V} {w0 s a b : Str} {p m : Nat}
theorem w0_eq {te : Bool → Hp → Prop} (h0 : σ[0]? = some (some (.ref wp))) (hw : SqL K H wp xs) (hx : xs[0]? = some (.str w0)) (h : te (decide (w0 = s)) H) : tTest (tOp rEq (tOp (rIxL K) (tVar 0) (tC (V.int 0))) (tC (V.str s))) σ H te := by
  refine ⟨_, h0, wp, _, 0, _, rfl, rfl, hw, atI_nat (j := 0) hx, rfl, _, rfl, ?_⟩
  have e : decide (V.str w0 = V.str s) = decide (w0 = s) := decide_eq_decide.mpr ⟨fun z => V.str.inj z, fun z => by rw [z]⟩
  rw [e]
  exact h
theorem p_eq {te : Bool → Hp → Prop} (h1 : σ[1]? = some (some (.int (p : Int)))) (h : te (decide (p = m)) H) : tTest (tOp rEq (tVar 1) (tC (V.int (m : Int)))) σ H te := by
  refine ⟨_, h1, rfl, _, rfl, ?_⟩
  have e : decide (V.int (p : Int) = V.int (m : Int)) = decide (p = m) := decide_eq_decide.mpr ⟨fun z => by have := V.int.inj z; omega, fun z => by rw [z]⟩
  rw [e]
  exact h
theorem p_ge {te : Bool → Hp → Prop} (h1 : σ[1]? = some (some (.int (p : Int)))) (h : te (decide (m ≤ p)) H) : tTest (tOp (rI0 fun i j => V.bl (decide (j ≤ i))) (tVar 1) (tC (V.int (m : Int)))) σ H te := by
  refine ⟨_, h1, _, _, rfl, rfl, _, rfl, ?_⟩
  have e : decide ((m : Int) ≤ (p : Int)) = decide (m ≤ p) := decide_eq_decide.mpr (by omega)
  rw [e]
  exact h
theorem and_eq3 (h0 : σ[0]? = some (some (.ref wp))) (h1 : σ[1]? = some (some (.int (p : Int)))) (hw : SqL K H wp xs) (hx : xs[0]? = some (.str w0)) (h : Q (decide (w0 = s ∧ p = m)) H) :
    tAnd (tTest (tOp rEq (tOp (rIxL K) (tVar 0) (tC (V.int 0))) (tC (V.str s)))) (tTest (tOp rEq (tVar 1) (tC (V.int (m : Int))))) σ H Q := by
  refine w0_eq h0 hw hx ?_
  by_cases c : w0 = s
  · refine iteT' (decide_eq_true c) (p_eq h1 ?_)
    rw [show decide (p = m) = decide (w0 = s ∧ p = m) by simp [c]]
    exact h
  · refine iteF' (decide_eq_false c) ?_
    rw [show false = decide (w0 = s ∧ p = m) by simp [c]]
    exact h
theorem and_ge3 (h0 : σ[0]? = some (some (.ref wp))) (h1 : σ[1]? = some (some (.int (p : Int)))) (hw : SqL K H wp xs) (hx : xs[0]? = some (.str w0)) (h : Q (decide (w0 = s ∧ m ≤ p)) H) :
    tAnd (tTest (tOp rEq (tOp (rIxL K) (tVar 0) (tC (V.int 0))) (tC (V.str s)))) (tTest (tOp (rI0 fun i j => V.bl (decide (j ≤ i))) (tVar 1) (tC (V.int (m : Int))))) σ H Q := by
  refine w0_eq h0 hw hx ?_
  by_cases c : w0 = s
  · refine iteT' (decide_eq_true c) (p_ge h1 ?_)
    rw [show decide (m ≤ p) = decide (w0 = s ∧ m ≤ p) by simp [c]]
    exact h
  · refine iteF' (decide_eq_false c) ?_
    rw [show false = decide (w0 = s ∧ m ≤ p) by simp [c]]
    exact h
theorem and_in3 (h0 : σ[0]? = some (some (.ref wp))) (h1 : σ[1]? = some (some (.int (p : Int)))) (hw : SqL K H wp xs) (hx : xs[0]? = some (.str w0)) (h : ∀ l, H l = none → Q (decide ((w0 = a ∨ w0 = b) ∧ p = m)) (upd H l (.lst [V.str a, V.str b]))) :
    tAnd (tTest (tOp (rIn K false) (tOp (rIxL K) (tVar 0) (tC (V.int 0))) (tLst (tCons (tC (V.str a)) (tCons (tC (V.str b)) tNil))))) (tTest (tOp rEq (tVar 1) (tC (V.int (m : Int))))) σ H Q := by
  refine ⟨_, h0, wp, _, 0, _, rfl, rfl, hw, atI_nat (j := 0) hx, (by show 2 ≤ sizeLine; decide), fun l hl => ?_⟩
  have q := h l hl
  refine ⟨l, [V.str a, V.str b], rfl, .inl (SqL.of upd_same), rfl, flat_strs (cs := [a, b]), _, rfl, ?_⟩
  have ei : inV (V.str w0) [V.str a, V.str b] = decide (w0 ∈ [a, b]) := inV_str (cs := [a, b])
  have em : (w0 ∈ [a, b]) = (w0 = a ∨ w0 = b) := by simp
  by_cases c : w0 = a ∨ w0 = b
  · refine iteT' (by rw [ei, decide_eq_true (em ▸ c)]; rfl) (p_eq h1 ?_)
    rw [show decide (p = m) = decide ((w0 = a ∨ w0 = b) ∧ p = m) by simp [c]]
    exact q
  · refine iteF' (by rw [ei, decide_eq_false (em ▸ c)]; rfl) ?_
    rw [show false = decide ((w0 = a ∨ w0 = b) ∧ p = m) by simp [c]]
    exact q
end
section
variable {P : Program} {w : World} {K : PySem.W.Frag} {mg : Str → Option Value} {base : Heap}
def spCol (K : PySem.W.Frag) : Sp := fun vs H Q _ => ∃ (wp : Addr) (ws : List Str) (p : Nat), vs = [.ref wp, .int (p : Int)] ∧ SqL K H wp (ws.map V.str) ∧ p < ws.length ∧ (∀ x ∈ ws, WdX x) ∧ ws.length ≤ 1015 ∧ ∀ H', Same H H' → Q (.int (colW ws p)) H'
theorem d_column (B : Bt mg) (A : At K mg "_law_column" s__law_column ["words", "place"]) : DefOk P w K mg base CX0 1 "_law_column" ["words", "place"] (spCol K) := by
  refine A.ok sc__law_column (fun vs H Q E h => ?_) (fun f cdv A outer s H vs Q E hr h => ?_)
  · obtain ⟨wp, ws, p, rfl, _⟩ := h
    rfl
  obtain ⟨wp, ws, p, rfl, hw, hp, hwd, hz, q⟩ := h
  refine ⟨_, pss_one (ps_ret (pe_op op_add (pe_op op_add (pe_callB (call_len_str) (by rfl) B.len (by decide +kernel) (pa_cons (pe_join pe_str (pe_slice sl_list (pv 0) po_none (po_some (pv 1)))) pa_nil)) pe_int) (pe_callTy (call_int1) (by rfl) B.int (by decide +kernel) (pa_cons (pe_cmpR op_gt (pv 1) pe_int (nomark _)) pa_nil))))
    , ?_⟩
  have wdt : ∀ x ∈ ws.take p, WdX x := fun x hx => hwd x (List.mem_of_mem_take hx)
  have lt1 : (ws.take p).length ≤ 1015 := by rw [List.length_take]; omega
  have st1' := sum_wd wdt
  have lrt := row_lenX wdt
  have zz := sizeLine_eq
  have e1 : (Str.ofString " " : Str).length = 1 := by decide +kernel
  have ec2 : cutV (ws.map V.str) none (some (p : Int)) = (ws.take p).map V.str := by
    rw [cut_toW (by rw [List.length_map]; omega), List.map_take]
  have ej2 : Txt.join (Str.ofString " ") (ws.take p) = row (ws.take p) := TL.join_eq sp _
  refine ⟨⟨_, rfl⟩, _, rfl, _, rfl, _, rfl, wp, _, rfl, hw, fun p8 hp8 => ?_⟩
  have s8 := same_new hp8 (.lst (cutV (ws.map V.str) none (some (p : Int))))
  refine ⟨_, p8, ws.take p, rfl, rfl, .inl (SqL.of (by rw [← ec2]; exact upd_same)), (by rw [e1]; omega), _, rfl, (by rw [ej2]; omega), _, _, rfl, rfl, _, rfl, _, _, rfl, rfl, .inr ⟨_, rfl, _, _, rfl, rfl, ?_⟩⟩
  rw [ej2]
  have ev : ((row (ws.take p)).length : Int) + 1 + (if decide ((0 : Int) < (p : Int)) = true then 1 else 0) = colW ws p := by
    by_cases c : p = 0
    · subst c
      have : (row (ws.take 0)).length = 0 := (by decide +kernel : (row ([] : List Str)).length = 0)
      rw [this]
      rfl
    · rw [if_pos (decide_eq_true (by omega)), ← col_row (by omega) hp]
      omega
  have z := q _ s8
  rw [← ev] at z
  exact z
def spRole (K : PySem.W.Frag) : Sp := fun vs H Q _ => ∃ (wp : Addr) (ws : List Str) (p : Nat) (w0 : Str), vs = [.ref wp, .int (p : Int)] ∧ SqL K H wp (ws.map V.str) ∧ ws[0]? = some w0 ∧ (w0 = Str.ofString "horizon" → p < 2) ∧ ∀ H', Same H H' → Q (.str (roleJ w0 p)) H'
theorem d_role (B : Bt mg) (A : At K mg "_law_role" s__law_role ["words", "place"]) : DefOk P w K mg base CX0 1 "_law_role" ["words", "place"] (spRole K) := by
  refine A.ok sc__law_role (fun vs H Q E h => ?_) (fun f cdv A outer s H vs Q E hr h => ?_)
  · obtain ⟨wp, ws, p, w0, rfl, _⟩ := h
    rfl
  obtain ⟨wp, ws, p, w0, rfl, hw, h0, hh, q⟩ := h
  refine ⟨_, pss_cons (ps_if (pt_cmpR op_eq (pe_ix ix_list (pv 0) pe_int (fun _ _ => rfl)) pe_str (nomark _))
      (pss_one (ps_ret (pe_ix ix_list (pe_lst (pa_cons pe_str (pa_cons pe_str pa_nil))) (pv 1) (fun _ _ => rfl))))
      (pss_nil))
  (pss_cons (ps_if (pt_cmpR op_eq (pv 1) pe_int (nomark _))
      (pss_one (ps_ret pe_str))
      (pss_nil))
  (pss_cons (ps_if (pt_cmpR op_eq (pv 1) pe_int (nomark _))
      (pss_one (ps_ret pe_str))
      (pss_nil))
  (pss_cons (ps_if (PW.pt (pw_and (pt_cmpR op_in_seq (pe_ix ix_list (pv 0) pe_int (fun _ _ => rfl)) (pe_lst (pa_cons pe_str (pa_cons pe_str pa_nil))) (by rfl)) (pw_and1 (pt_cmpR op_eq (pv 1) pe_int (nomark _)))))
      (pss_one (ps_ret pe_str))
      (pss_nil))
  (pss_cons (ps_if (PW.pt (pw_and (pt_cmpR op_eq (pe_ix ix_list (pv 0) pe_int (fun _ _ => rfl)) pe_str (nomark _)) (pw_and1 (pt_cmpR op_eq (pv 1) pe_int (nomark _)))))
      (pss_one (ps_ret pe_str))
      (pss_nil))
  (pss_cons (ps_if (PW.pt (pw_and (pt_cmpR op_eq (pe_ix ix_list (pv 0) pe_int (fun _ _ => rfl)) pe_str (nomark _)) (pw_and1 (pt_cmpR op_ge (pv 1) pe_int (nomark _)))))
      (pss_one (ps_ret pe_str))
      (pss_nil))
  (pss_cons (ps_if (PW.pt (pw_and (pt_cmpR op_eq (pe_ix ix_list (pv 0) pe_int (fun _ _ => rfl)) pe_str (nomark _)) (pw_and1 (pt_cmpR op_ge (pv 1) pe_int (nomark _)))))
      (pss_one (ps_ret (pe_ix ix_list (pe_lst (pa_cons pe_str (pa_cons pe_str pa_nil))) (pe_op op_mod (pe_op op_sub (pv 1) pe_int) pe_int) (fun _ _ => rfl))))
      (pss_nil))
  (pss_cons (ps_if (PW.pt (pw_and (pt_cmpR op_eq (pe_ix ix_list (pv 0) pe_int (fun _ _ => rfl)) pe_str (nomark _)) (pw_and1 (pt_cmpR op_ge (pv 1) pe_int (nomark _)))))
      (pss_one (ps_ret (pe_ix ix_list (pe_lst (pa_cons pe_str (pa_cons pe_str pa_nil))) (pe_op op_mod (pe_op op_sub (pv 1) pe_int) pe_int) (fun _ _ => rfl))))
      (pss_nil))
  (pss_one (ps_ret (pe_ix ix_list (pe_lst (pa_cons pe_str (pa_cons pe_str pa_nil))) (pe_op op_mod (pv 1) pe_int) (fun _ _ => rfl)))))))))))
    , ?_⟩
  have hw0 : (ws.map V.str)[0]? = some (V.str w0) := by rw [List.getElem?_map, h0]; rfl
  have wn : ∀ {H1 : Hp} {l : Addr} {m : Int} {k : Nat}, m = (k : Int) → k < 2 → roleJ w0 p = wnJ k → Same H H1 → H1 l = none → rIxL K (.ref l) (.int m) (upd H1 l (.lst [V.str "word", V.str "number"])) Q := fun {H1 l m k} em hk er s1 hl => by
    subst em
    have sl := s1.trans (same_new hl (.lst [V.str "word", V.str "number"]))
    have z := q _ sl
    rw [er] at z
    match k, hk with
    | 0, _ => exact ⟨l, _, 0, _, rfl, rfl, SqL.of upd_same, atI_nat (j := 0) rfl, z⟩
    | 1, _ => exact ⟨l, _, 1, _, rfl, rfl, SqL.of upd_same, atI_nat (j := 1) rfl, z⟩
  have s0 : Same H H := Same.refl _
  refine ⟨_, rfl, wp, _, 0, _, rfl, rfl, hw, atI_nat (j := 0) hw0, rfl, _, rfl, ?_⟩
  by_cases c1 : w0 = Str.ofString "horizon"
  · refine iteT' (decide_eq_true (congrArg V.str c1)) ⟨(by show 2 ≤ sizeLine; decide), fun l hl => ⟨_, rfl, ?_⟩⟩
    exact wn rfl (hh c1) (by unfold roleJ; rw [if_pos c1]) s0 hl
  refine iteF' (decide_eq_false fun z => c1 (V.str.inj z)) ?_
  refine ⟨_, rfl, rfl, _, rfl, ?_⟩
  by_cases c2 : p = 0
  · refine iteT' (decide_eq_true (by rw [c2]; rfl)) ?_
    have z := q H s0
    rw [show roleJ w0 p = Str.ofString "word" by unfold roleJ; rw [if_neg c1, if_pos c2]] at z
    exact z
  refine iteF' (decide_eq_false fun z => c2 (by have := V.int.inj z; omega)) ⟨_, rfl, rfl, _, rfl, ?_⟩
  by_cases c3 : p = 1
  · refine iteT' (decide_eq_true (by rw [c3]; rfl)) ?_
    have z := q H s0
    rw [show roleJ w0 p = Str.ofString "new" by unfold roleJ; rw [if_neg c1, if_neg c2, if_pos c3]] at z
    exact z
  refine iteF' (decide_eq_false fun z => c3 (by have := V.int.inj z; omega)) ?_
  refine and_in3 (w0 := w0) (p := p) (m := 3) rfl rfl hw hw0 (fun l hl => ?_)
  have s1 := same_new hl (.lst [V.str "recording", V.str "pass"])
  have hw1 := s1.seq hw
  generalize upd H l (.lst [V.str "recording", V.str "pass"]) = H1 at s1 hw1
  refine ite2 (fun c => ?_) (fun c => ?_)
  · have c4 := of_decide_eq_true c
    have z := q H1 s1
    rw [show roleJ w0 p = Str.ofString "known" by unfold roleJ; rw [if_neg c1, if_neg c2, if_neg c3, if_pos c4]] at z
    exact z
  have c4 := fun z => c (decide_eq_true z)
  have er : roleJ w0 p = if w0 = Str.ofString "pass" ∧ p = 5 then Str.ofString "known" else if w0 = Str.ofString "satellite" ∧ 15 ≤ p then Str.ofString "number" else if w0 = Str.ofString "pass" ∧ 6 ≤ p then wnJ ((p - 6) % 2) else if w0 = Str.ofString "recording" ∧ 4 ≤ p then wnJ ((p - 4) % 2) else wnJ (p % 2) := by
    unfold roleJ
    rw [if_neg c1, if_neg c2, if_neg c3, if_neg c4]
  clear c1 c2 c3 c4 c
  refine and_eq3 (w0 := w0) (p := p) (m := 5) rfl rfl hw1 hw0 (ite2 (fun c => ?_) (fun c => ?_))
  · have z := q H1 s1
    rw [er, if_pos (of_decide_eq_true c)] at z
    exact z
  rw [if_neg fun z => c (decide_eq_true z)] at er
  refine and_ge3 (w0 := w0) (p := p) (m := 15) rfl rfl hw1 hw0 (ite2 (fun c => ?_) (fun c => ?_))
  · have z := q H1 s1
    rw [er, if_pos (of_decide_eq_true c)] at z
    exact z
  rw [if_neg fun z => c (decide_eq_true z)] at er
  refine and_ge3 (w0 := w0) (p := p) (m := 6) rfl rfl hw1 hw0 (ite2 (fun c => ?_) (fun c => ?_))
  · have cc := of_decide_eq_true c
    rw [if_pos cc] at er
    refine ⟨(by show 2 ≤ sizeLine; decide), fun l2 hl2 => ⟨_, rfl, _, _, rfl, rfl, _, _, rfl, rfl, (by show (0 : Int) < 2; decide), ?_⟩⟩
    exact wn (k := (p - 6) % 2) (by have := cc.2; omega) (Nat.mod_lt _ (by decide)) er s1 hl2
  rw [if_neg fun z => c (decide_eq_true z)] at er
  refine and_ge3 (w0 := w0) (p := p) (m := 4) rfl rfl hw1 hw0 (ite2 (fun c => ?_) (fun c => ?_))
  · have cc := of_decide_eq_true c
    rw [if_pos cc] at er
    refine ⟨(by show 2 ≤ sizeLine; decide), fun l2 hl2 => ⟨_, rfl, _, _, rfl, rfl, _, _, rfl, rfl, (by show (0 : Int) < 2; decide), ?_⟩⟩
    exact wn (k := (p - 4) % 2) (by have := cc.2; omega) (Nat.mod_lt _ (by decide)) er s1 hl2
  rw [if_neg fun z => c (decide_eq_true z)] at er
  refine ⟨(by show 2 ≤ sizeLine; decide), fun l2 hl2 => ⟨_, rfl, _, _, rfl, rfl, (by show (0 : Int) < 2; decide), ?_⟩⟩
  exact wn (k := p % 2) (by omega) (Nat.mod_lt _ (by decide)) er s1 hl2
end
end DP
namespace DP
open PySem PySem.Spec PyProof.Rows L2
theorem jl_snoc : ∀ {rows : List Str}, rows ≠ [] → TL.joinL [10] (rows.map tl) ++ [10] = (rows.map fun r => tl r ++ [10]).flatten
  | [], h => absurd rfl h
  | [r], _ => by
    show tl r ++ [10] = (tl r ++ [10]) ++ []
    rw [List.append_nil]
  | r :: q :: z, _ => by
    have ih := jl_snoc (rows := q :: z) (List.cons_ne_nil _ _)
    show (tl r ++ ([10] ++ TL.joinL [10] ((q :: z).map tl))) ++ [10] = (tl r ++ [10]) ++ ((q :: z).map fun r => tl r ++ [10]).flatten
    rw [← ih]
    simp only [List.append_assoc]
theorem six_m1 (n d : Nat) (h : 1 ≤ n) : HT.sIx n d (some (-1)) = n - 1 := by
  show (if (-1 : Int) < 0 then ((-1 : Int) + (n : Int)).toNat else min (-1 : Int).toNat n) = n - 1
  rw [if_pos (by decide)]
  omega
theorem tl_glue {rows : List Str} (h : rows ≠ []) : tl (glue rows) = tl (Str.join nl rows) ++ [10] := by
  rw [glue_tl, show tl (Str.join nl rows) = TL.joinL (tl nl) (rows.map tl) from TL.tl_join nl rows, tl_nl, jl_snoc h]
theorem cut_glue {rows : List Str} (h : rows ≠ []) : cutS (glue rows) none (some (-1)) = Str.join nl rows := by
  refine TL.ext_tl ?_
  have e := tl_glue h
  have hl : (glue rows).length = (tl (Str.join nl rows)).length + 1 := by
    rw [TL.len_tl, show TL.tl (glue rows) = tl (glue rows) from rfl, e, List.length_append, List.length_singleton]
  show ((tl (glue rows)).drop (HT.sIx (glue rows).length 0 none)).take (HT.sIx (glue rows).length (glue rows).length (some (-1)) - HT.sIx (glue rows).length 0 none) = tl (Str.join nl rows)
  rw [HT.sIx_none, six_m1 _ _ (by omega), List.drop_zero, e, hl]
  show List.take (_ + 1 - 1 - 0) _ = _
  rw [Nat.add_sub_cancel, Nat.sub_zero, List.take_left]
theorem split_rows {rows : List Str} (h : rows ≠ []) (hf : ∀ r ∈ rows, 10 ∉ tl r) : Txt.split (Str.join nl rows) nl = rows := by
  have e := TL.split_join (y := nl) (s := 10) (S := []) tl_nl (by decide +kernel) h hf
  rw [TL.join_eq] at e
  exact e
theorem split_none : Txt.split (Str.ofString "") nl = [Str.ofString ""] := by decide +kernel
theorem len_join_le {rows : List Str} (h : rows ≠ []) : (Str.join nl rows).length ≤ (glue rows).length := by
  rw [TL.len_tl, TL.len_tl, show TL.tl (glue rows) = tl (glue rows) from rfl, tl_glue h, List.length_append]
  exact Nat.le_add_right _ _
/-- a drawn world's lines -/
theorem lnw_of {W : WorldD} (g : WG W) : ∀ l ∈ linesW W, LnW l := fun l hl => by
  obtain ⟨h1, h2, _⟩ := linesW_ok g.ok l hl
  refine ⟨h1, fun x hx => (h2 x hx).x, ?_⟩
  obtain ⟨i, hi⟩ := List.getElem?_of_mem hl
  cases lk_of g.ok hi with
  | hor => exact (by decide : 2 ≤ 400)
  | sat _ so =>
    have := so.light.len (by have := g.ok.horizon.1; omega)
    have := g.h80
    rw [wSat_len]
    omega
  | sta _ _ => exact (by decide : 6 ≤ 400)
  | rec_ _ => exact (by decide : 20 ≤ 400)
  | pas _ => exact (by decide : 16 ≤ 400)
theorem row_ne {ws : List Str} {w0 : Str} (h0 : ws[0]? = some w0) (hw : w0 ≠ Str.ofString "") : row ws ≠ Str.empty := fun z => by
  have hn : ws ≠ [] := fun e => by rw [e] at h0; cases h0
  have hj := jl_len hn
  have ez : (row ws).length = 0 := by rw [z]; rfl
  have er : (row ws).length = (TL.joinL (tl sp) (ws.map tl)).length := by
    rw [TL.len_tl]
    unfold row
    rw [show TL.tl (Str.join sp ws) = TL.joinL (tl sp) (ws.map tl) from TL.tl_join sp _]
  obtain ⟨x, r, rfl⟩ : ∃ x r, ws = x :: r := by
    cases ws with
    | nil => exact absurd rfl hn
    | cons x r => exact ⟨x, r, rfl⟩
  have ex : x = w0 := Option.some.inj h0
  have hx : 0 < x.length := by
    rw [TL.len_tl]
    exact List.length_pos_iff.mpr (ne_tl (ex ▸ hw))
  have hs : ∀ l : List Str, (0 : Int) ≤ (l.map fun w => (w.length : Int) + 1).sum := fun l => by
    induction l with
    | nil => exact Int.le_refl 0
    | cons y t ih => rw [List.map_cons, List.sum_cons]; omega
  have h3 := hs r
  have e2 : ((x :: r).map fun w => (w.length : Int) + 1).sum = ((x.length : Int) + 1) + (r.map fun w => (w.length : Int) + 1).sum := rfl
  rw [e2, ← er, ez] at hj
  omega
theorem lk_w0 {W : WorldD} {i : Nat} {ws : List Str} (K : LK W i ws) : ∃ w0, ws[0]? = some w0 ∧ w0 ≠ Str.ofString "" ∧ (w0 = Str.ofString "horizon" → ws.length ≤ 2) := by
  cases K with
  | hor => exact ⟨_, rfl, by decide +kernel, fun _ => Nat.le_refl _⟩
  | sat _ _ => exact ⟨Str.ofString "satellite", rfl, by decide +kernel, fun z => absurd z (by decide +kernel)⟩
  | sta _ _ => exact ⟨Str.ofString "station", rfl, by decide +kernel, fun z => absurd z (by decide +kernel)⟩
  | rec_ _ => exact ⟨Str.ofString "recording", rfl, by decide +kernel, fun z => absurd z (by decide +kernel)⟩
  | pas _ => exact ⟨Str.ofString "pass", rfl, by decide +kernel, fun z => absurd z (by decide +kernel)⟩
theorem bad_wd : ∀ u ∈ badL, WdX u := by
  refine List.forall_mem_cons.mpr ⟨lit_wd (by decide +kernel), List.forall_mem_cons.mpr ⟨lit_wd (by decide +kernel), List.forall_mem_cons.mpr ⟨lit_wd (by decide +kernel), List.forall_mem_cons.mpr ⟨lit_wd (by decide +kernel), List.forall_mem_cons.mpr ⟨lit_wd (by decide +kernel), List.forall_mem_cons.mpr ⟨lit_wd (by decide +kernel), fun _ z => absurd z List.not_mem_nil⟩⟩⟩⟩⟩⟩
theorem lnw_setW {l : List Str} {p : Nat} {u : Str} (h : LnW l) (hu : WdX u) : LnW (l.set p u) := ⟨fun z => h.ne (by have := congrArg List.length z; rw [List.length_set] at this; exact List.eq_nil_of_length_eq_zero this), fun w hw => by
  rcases List.mem_or_eq_of_mem_set hw with k | k
  · exact h.wd w k
  · rw [k]
    exact hu, by rw [List.length_set]; exact h.sz⟩
theorem bad_so : ∀ u ∈ [unW3, emW3, miW3, nuE3, naE3, ("newline expected" : Str), ("missing line" : Str)], PyData.strOk u = true := by decide +kernel
theorem ln_sz {W : WorldD} (g : WG W) {i : Nat} {ws : List Str} (K : LK W i ws) : ws.length ≤ 200 := by
  cases K with
  | hor => exact (by decide : 2 ≤ 200)
  | sat _ so =>
    have := so.light.len (by have := g.ok.horizon.1; omega)
    have := g.h80
    rw [wSat_len]
    omega
  | sta _ _ => exact (by decide : 6 ≤ 200)
  | rec_ _ => exact (by decide : 20 ≤ 200)
  | pas _ => exact (by decide : 16 ≤ 200)
end DP
namespace DP
open PySem PySem.Spec PyProof.Rows L2
abbrev s__law_fault : Stmt := topS 52
theorem sc__law_fault : FnScope ["text", "e"] ["text"] (defScope s__law_fault) := ⟨rfl, rfl, rfl, by decide +kernel, rfl, by decide +kernel, by decide +kernel⟩
structure TxtV (K : PySem.W.Frag) (mg : Str → Option Value) (CB CE : Addr) : Prop where
  gE : mg "PassError" = some (.ref CE)
  iE : PySem.W.isClsIn K CE = true
  tE : PySem.W.typeIn K (.ref CE) = some (.type "type")
  sE : PySem.W.subIn K (.ref CB) (.ref CE) = some true
  nV : mg "ValueError" = none
  sV : PySem.W.subIn K (.ref CB) (.type "ValueError") = some true
  ex : ExcC K CB
theorem TxtV.kE {K : PySem.W.Frag} {mg : Str → Option Value} {CB CE : Addr} (T : TxtV K mg CB CE) : PySem.W.kitOne K (.ref CB) (.ref CE) = some true := by
  have e2 : ((PySem.W.clsIn K CE).isSome && PySem.W.typeIn K (.ref CE) == some (.type "type")) = true := by
    have h2' : (PySem.W.clsIn K CE).isSome = true := T.iE
    rw [h2', T.tE] <;> rfl
  show (if ((Value.ref CB : Value) == .ref CE) = true then some true else if ((PySem.W.clsIn K CE).isSome && PySem.W.typeIn K (.ref CE) == some (.type "type")) = true then PySem.W.subIn K (.ref CB) (.ref CE) else none) = some true
  by_cases c : ((Value.ref CB : Value) == .ref CE) = true
  · rw [if_pos c]
  · rw [if_neg c, if_pos e2]
    exact T.sE
theorem TxtV.kV {K : PySem.W.Frag} {mg : Str → Option Value} {CB CE : Addr} (T : TxtV K mg CB CE) : PySem.W.kitOne K (.ref CB) (.type "ValueError") = some true := by
  have e1 : ((Value.ref CB : Value) == .type "ValueError") = false := rfl
  have e2 : PySem.W.kitMeta "ValueError" = true := by decide +kernel
  show (if ((Value.ref CB : Value) == .type "ValueError") = true then some true else if PySem.W.kitMeta "ValueError" = true then PySem.W.subIn K (.ref CB) (.type "ValueError") else none) = some true
  rw [e1, if_neg Bool.false_ne_true, if_pos e2]
  exact T.sV
section
variable {P : Program} {w : World} {K : PySem.W.Frag} {mg : Str → Option Value} {base : Heap} {CL CS CT CR CP CW aS aR fS fT fR fP CF CE : Addr}
def spFault3 (K : PySem.W.Frag) : Sp := fun vs H Q _ => ∃ (text : Str) (lns : List (List Str)) (last : Str) (f : Flt), vs = [.str text] ∧ Txt.split text nl = lns.map row ++ [last] ∧ (∀ l ∈ lns, LnOk l) ∧ lns.length ≤ 100 ∧ text.length ≤ 1000000 ∧ last.length ≤ 100000 ∧
  rdText lns last = .error f ∧ ∀ t H', Same H H' → SqT K H' t [.int f.1, .int f.2.1, .str f.2.2] → Q (.ref t) H'
theorem d_fault3 (T : TxtW K mg CL CS CT CR CP CW aS aR fS fT fR fP) (TF : TfAt K mg CF) (TV : TxtV K mg CF CE) (D_World_parse : SDef P w K mg base (L2N.CX P w) 9 CW "parse" ["text"] (spParseX K CW CF)) (D_intH : DefH P w K mg base CX0 1 "_law_is_integer" ["actual"] spIsInt)
    (A : At K mg "_law_fault" s__law_fault ["text"]) : DefOk P w K mg base CX0 10 "_law_fault" ["text"] (spFault3 K) := by
  have B := T.L.B
  refine A.ok sc__law_fault (fun vs H Q E h => ?_) (fun f cdv A outer s H vs Q E hr h => ?_)
  · obtain ⟨text, lns, last, f, rfl, _⟩ := h
    rfl
  obtain ⟨text, lns, last, f, rfl, hsp, hok, hn, hz, hla, hf, q⟩ := h
  have hr1 : Room 9 _ := hr.mono (by omega)
  have hr3 : Room 1 _ := hr.mono (by omega)
  refine ⟨_, pss_cons (L2N.ps_try_as (i := 1) (Wout := fun _ _ _ _ => False) rfl rfl sc__law_fault.nd rfl rfl ⟨rfl, by decide, Or.inl TF.g⟩ takesN0 (fun W pn xe tk _ => pss_one (ps_expr (pe_smethS D_World_parse T.rdW hr1 (fun σ => L2N.passAt tk σ) (pe_ga T.c_World.gC) (pa_cons (pv 0) pa_nil)))) (fun a oe cls d pn hz hf => pss_cons (ps_if (PW.pt (pw_or (pt_not (pt_val (pe_callB (call_isEG TV.ex TF.iT hz.zc hf) (by rfl) B.isinstance (by decide +kernel) (pa_cons (pv 1) (pa_cons (pe_ga TV.gE) pa_nil))))) (pw_or1 (pt_not (pt_val (pe_callB (call_isEG TV.ex TF.iT hz.zc hf) (by rfl) B.isinstance (by decide +kernel) (pa_cons (pv 1) (pa_cons (pe_bltn (v := .ty "ValueError") (u := .type "ValueError") (by rfl) TV.nV (by decide +kernel) rfl) pa_nil)))))))) (pss_one (ps_ret pe_non)) (pss_nil)) (pss_cons (ps_if (PW.pt (pw_or (pt_not (pt_val (pe_fH D_intH (roomN hr3) (hotN hz hf) (pa_cons (pe_xf TF.xf TF.nl hz.zc hf (pv 1)) pa_nil)))) (pw_or1 (pt_not (pt_val (pe_fH D_intH (roomN hr3) (hotN hz hf) (pa_cons (pe_xf TF.xf TF.nc hz.zc hf (pv 1)) pa_nil))))))) (pss_one (ps_ret pe_non)) (pss_nil)) (pss_one (ps_ret (pe_tup (pa_cons (pe_xf TF.xf TF.nl hz.zc hf (pv 1)) (pa_cons (pe_xf TF.xf TF.nc hz.zc hf (pv 1)) (pa_cons (pe_xf TF.xf TF.nr hz.zc hf (pv 1)) pa_nil)))))))))
  (pss_one (ps_ret pe_str))
    , ?_⟩
  have kE := TV.kE
  have kV := TV.kV
  refine ⟨rfl, _, rfl, text, lns, last, rfl, hsp, hok, hn, hz, hla, fun f' hf' d H' s' hd => ⟨true, TF.te, fun _ a ha => ?_, fun z => Bool.noConfusion z⟩, fun h hh => ?_⟩
  · rw [hf] at hf'
    have ef := Except.error.inj hf'
    subst ef
    have e1 : (tfF f.1 f.2.1 f.2.2).lookup ("line" : Str) = some (.int f.1) := by unfold tfF; exact (lk_miss (by decide +kernel)).trans ((lk_miss (by decide +kernel)).trans lk_hit)
    have e2 : (tfF f.1 f.2.1 f.2.2).lookup ("column" : Str) = some (.int f.2.1) := by unfold tfF; exact (lk_miss (by decide +kernel)).trans lk_hit
    have e3 : (tfF f.1 f.2.1 f.2.2).lookup ("reason" : Str) = some (.str f.2.2) := by unfold tfF; exact lk_hit
    refine ⟨_, rfl, rfl, d, _, .ref CE, _, true, rfl, hd, rfl, fun u hu => by cases hu; rfl, kE, true, rfl, iteF' rfl ?_⟩
    refine ⟨_, rfl, rfl, d, _, .ty "ValueError", _, true, rfl, hd, rfl, fun u hu => hu, kV, true, rfl, iteF' rfl ?_⟩
    refine ⟨_, rfl, rfl, rfl, d, _, _, rfl, hd, e1, f.1, rfl, true, rfl, iteF' rfl ?_⟩
    refine ⟨_, rfl, rfl, rfl, d, _, _, rfl, hd, e2, f.2.1, rfl, true, rfl, iteF' rfl ?_⟩
    refine ⟨_, rfl, rfl, rfl, d, _, _, rfl, hd, e1, _, rfl, rfl, rfl, d, _, _, rfl, hd, e2, _, rfl, rfl, rfl, d, _, _, rfl, hd, e3, (by show 3 ≤ sizeLine; decide), fun t ht => ?_⟩
    exact q t _ (s'.trans (same_new ht _)) (SqT.of upd_same)
  · rw [hf] at hh
    cases hh
end
end DP
namespace DP
open PySem PySem.Spec PyProof.Rows L2
theorem sqT_put {K : PySem.W.Frag} {H : Hp} {a p : Addr} {xs ys : List V} {o : HO} (h : SqT K H a xs) (hp : H p = some (.lst ys)) : SqT K (upd H p o) a xs := by
  rcases h with h | h
  · refine .inl ?_
    rcases h with h | ⟨o, h⟩
    · have e : a ≠ p := fun e => by
        subst e
        rw [h] at hp
        injection hp with e
        cases e
      exact .inl (by rw [upd_ne e]; exact h)
    · have e : a ≠ p := fun e => by
        subst e
        rw [h] at hp
        injection hp with e
        cases e
      exact .inr ⟨o, by rw [upd_ne e]; exact h⟩
  · exact .inr h
theorem shp5 {i j : Int} {s : Str} (hs : PyData.strOk s = true) : SeqAt.shaped (.tuple [.int i, .int j, .str s]) = true := Bool.and_eq_true_iff.mpr ⟨by simp [PyData.canLay0, PyData.canLayAll0, hs], decide_eq_true (by simp [PyData.depth, PyData.depthAll])⟩
theorem eqv5 {i j : Int} {s : Str} (hs : PyData.strOk s = true) : PyData.eqv (.tuple [.int i, .int j, .str s]) (.tuple [.int i, .int j, .str s]) = true := PySem.SeqAt.eqv_refl _ (by simp [PyData.canLay0, PyData.canLayAll0, hs])
theorem dp3 {K : PySem.W.Frag} {H : Hp} {t : Addr} {i j : Int} {s : Str} (h : SqT K H t [.int i, .int j, .str s]) : Dp K H (.ref t) (.tuple [.int i, .int j, .str s]) := .tup h (.cons (.int _) (.cons (.int _) (.cons (.str _) .nil)))
def joinR3 (K : PySem.W.Frag) : V → List V → Hp → VK → Prop := fun x xs H Q => ∃ a p, ∃ ys : List Str, x = V.str a ∧ xs = [V.ref p] ∧ (SqL K H p (ys.map V.str) ∨ SqT K H p (ys.map V.str)) ∧ (ys.map fun x => x.length).sum + ys.length * a.length ≤ 16777216 ∧ Q (V.str (Txt.join a ys)) H
def addR3 : R2 := fun x y H Q => ∃ i j : Str, x = V.str i ∧ y = V.str j ∧ i.length + j.length ≤ sizeLine ∧ Q (V.str (i ++ j)) H
/-- the lines joined -/
def tGl3 (K : PySem.W.Frag) : TE := tM1 (joinR3 K) (tC (V.str (Str.ofString ""))) (tLc (iList K (tVar 1)) (gName 12) tYes (tOp addR3 (tVar 12) (tC (V.str (Str.ofString "\n")))) [12])
theorem sum_nl {m : Nat} : ∀ l : List Str, (∀ r ∈ l, r.length ≤ m) → ((l.map fun r => r ++ nl).map fun x => x.length).sum ≤ (m + 1) * l.length := fun l => by
  induction l with
  | nil => exact fun _ => Nat.zero_le _
  | cons x r ih =>
    intro hl
    have h1 := ih fun z hz => hl z (List.mem_cons_of_mem _ hz)
    have h2 := len_addX (hl x List.mem_cons_self) (show nl.length ≤ 1 by decide +kernel)
    simp only [List.map_cons, List.sum_cons, List.length_cons]
    rw [Nat.mul_add]
    omega
theorem gl3_run {K : PySem.W.Frag} {σ : L2.St} {H : Hp} {Q : VK} {L : Addr} {rows : List Str} {s0 s2 s3 s4 s5 s6 s7 s8 s9 s10 s11 s12 : Option V} (hσ : σ = [s0, some (.ref L), s2, s3, s4, s5, s6, s7, s8, s9, s10, s11, s12]) (hL : H L = some (.lst (rows.map V.str))) (lok : ∀ x ∈ rows, x.length ≤ 16400) (hn : rows.length ≤ 40)
    (q : ∀ H', Same H H' → Q (.str (glue rows)) H') : tGl3 K σ H Q := by
  subst hσ
  refine ⟨⟨_, rfl⟩, _, rfl, L, rfl, ⟨_, SqL.of hL⟩, fun D hD => ?_⟩
  refine lc_list (K := K) (a := L) (xs := rows.map V.str) (fun i H' => Same H H' ∧ H' D = some (.lst (((rows.take i).map fun r => r ++ nl).map V.str))) ⟨same_new hD _, upd_same⟩ (fun i H' _ h => SqL.of (h.1 _ _ hL)) (fun i x H2 hx hI => ?_) (fun H2 hI => ?_)
  · obtain ⟨hs, hDD⟩ := hI
    rw [List.getElem?_map] at hx
    cases e : rows[i]? with
    | none => rw [e] at hx; cases hx
    | some r =>
      rw [e] at hx
      have ex : V.str r = x := Option.some.inj hx
      subst ex
      have hr1 := lok r (List.mem_of_getElem? e)
      have nl1 : (Str.ofString "\n" : Str).length ≤ 1 := by decide +kernel
      refine ⟨rfl, _, rfl, _, _, rfl, rfl, fit_bigX (by omega), _, hDD, ?_, same_at hD hs _, ?_⟩
      · rw [List.length_map, List.length_map, List.length_take]
        exact small1000 (by omega)
      · rw [upd_same, take_snoc e]
        simp only [List.map_append, List.map_cons, List.map_nil]
        rfl
  · obtain ⟨hs, hDD⟩ := hI
    rw [List.length_map, List.take_length] at hDD
    refine ⟨_, D, _, rfl, rfl, .inl (SqL.of hDD), ?_, ?_⟩
    · have := sum_nl rows lok
      rw [show (Str.ofString "" : Str).length = 0 from rfl]
      omega
    rw [show (Str.ofString "" : Str) = Str.empty from rfl, join_nl]
    exact q _ hs
theorem gl3_set {K : PySem.W.Frag} {σ : L2.St} {H : Hp} {D : Ends} {u : TS} {L : Addr} {rows : List Str} {s0 s2 s3 s4 s5 s6 s7 s8 s9 s10 s11 s12 : Option V} (hσ : σ = [s0, some (.ref L), s2, s3, s4, s5, s6, s7, s8, s9, s10, s11, s12]) (hL : H L = some (.lst (rows.map V.str))) (lok : ∀ x ∈ rows, x.length ≤ 16400) (hn : rows.length ≤ 40)
    (q : ∀ H', Same H H' → u D [s0, some (.ref L), s2, s3, s4, s5, some (.str (glue rows)), s7, s8, s9, s10, s11, s12] H') : tSeq (tAsg (tGl3 K) (gName 6)) u D σ H := by
  subst hσ
  show tGl3 K [s0, some (.ref L), s2, s3, s4, s5, s6, s7, s8, s9, s10, s11, s12] H (fun x H1 => gName 6 x [s0, some (.ref L), s2, s3, s4, s5, s6, s7, s8, s9, s10, s11, s12] H1 (u D))
  exact gl3_run rfl hL lok hn fun H' s => q H' s
/-- the last two rows -/
def finT3 (K : PySem.W.Frag) : TS := tSeq (tAsg (tM1 (joinR3 K) (tC (.str (Str.ofString " "))) (tVar 9)) (gSub (tVar 1) (tVar 2) rSetL)) (tRet (tOp (rEqD K) (tCall (spFault3 K) [] E0 (tCons (tGl3 K) tNil)) (tVar 10)))
theorem fin3 {K : PySem.W.Frag} {σ : L2.St} {H : Hp} {D : Ends} {pf cp t : Addr} {L : List (List Str)} {i : Nat} {x y : List Str} {c : Int} {why : Str} {s0 s3 s4 s5 s6 s7 s8 s11 s12 : Option V}
    (hσ : σ = [s0, some (.ref pf), some (.int (i : Int)), s3, s4, s5, s6, s7, s8, some (.ref cp), some (.ref t), s11, s12]) (hf : H pf = some (.lst ((L.map row).map V.str))) (hc : SqL K H cp (y.map V.str)) (hrow : row y = row x) (hsum : (y.map fun x => x.length).sum + y.length ≤ 16777216)
    (ht : SqT K H t [.int ((i : Int) + 1), .int c, .str why]) (hL : ∀ l ∈ L, LnW l) (hn : L.length ≤ 40) (hi : i < L.length) (hx : LnW x) (he : rdText (L.set i x) Str.empty = .error ((i : Int) + 1, c, why)) (hs : PyData.strOk why = true) (q : ∀ H', D.rt (.bl true) H') : finT3 K D σ H := by
  subst hσ
  have e1 : (Str.ofString " " : Str).length = 1 := by decide +kernel
  have ej : Txt.join (Str.ofString " ") y = row x := (TL.join_eq sp _).trans hrow
  refine ⟨⟨_, rfl⟩, _, rfl, _, cp, y, rfl, rfl, .inl hc, (by rw [e1]; omega), _, rfl, _, rfl, pf, _, _, i, rfl, rfl, hf, ixN_natW (by rw [List.length_map, List.length_map]; exact hi), ?_⟩
  have e2 : ((L.map row).map V.str).set i (V.str (Txt.join (Str.ofString " ") y)) = ((L.set i x).map row).map V.str := by rw [ej, ← List.map_set, ← List.map_set]
  have g4 : (upd H pf (.lst (((L.map row).map V.str).set i (V.str (Txt.join (Str.ofString " ") y))))) pf = some (.lst (((L.set i x).map row).map V.str)) := by rw [upd_same, e2]
  have gt := sqT_put (o := .lst (((L.map row).map V.str).set i (V.str (Txt.join (Str.ofString " ") y)))) ht hf
  have hL2 := lns_set (r := i) hL hx
  have hn2 : (L.set i x).length ≤ 40 := by rw [List.length_set]; exact hn
  generalize upd H pf (.lst (((L.map row).map V.str).set i (V.str (Txt.join (Str.ofString " ") y)))) = H1 at g4 gt
  refine gl3_run rfl g4 (fun r hr => ?_) (by rw [List.length_map]; exact hn2) (fun H2 s2 => ?_)
  · obtain ⟨l, hl, rfl⟩ := List.mem_map.mp hr
    have h2 := row_lenX (hL2 l hl).wd
    have h3 := (hL2 l hl).sz
    omega
  refine ⟨glue ((L.set i x).map row), L.set i x, Str.empty, (((i : Int) + 1, c, why) : Flt), rfl, split_glueX hL2, fun l hl => (hL2 l hl).ok, by omega, glue_lenX hL2 hn2, by decide, he, fun t2 H3 s3 ht2 => ?_⟩
  refine ⟨_, rfl, .tuple [.int ((i : Int) + 1), .int c, .str why], .tuple [.int ((i : Int) + 1), .int c, .str why], dp3 ht2, dp3 (Same.tup (s2.trans s3) gt), shp5 hs, shp5 hs, ?_⟩
  rw [eqv5 hs]
  exact q _
section
variable {W : WorldD} {i p : Nat} {ws : List Str} {w0 : Str}
theorem set_chg (w : WorldOk W) (K : LK W i ws) (h0 : ws[0]? = some w0) (hp : p < ws.length) {u why : Str} (hb : Bad (ρL w0 p) (some u) why) : rdText ((linesW W).set i (ws.set p u)) Str.empty = .error ((i : Int) + 1, colW ws p, why) := by
  have z := chg_cut w K (x := ws.set p u) (p := p) (why := why) h0 hp (fun j hj => (List.getElem?_set_ne (by omega)).symm) (.inl List.length_set) (by rw [List.getElem?_set_self hp]; exact hb) (fun e => by rw [List.length_set] at e; omega)
  rw [colW_set] at z
  exact z
theorem take_chg (w : WorldOk W) (K : LK W i ws) (h0 : ws[0]? = some w0) (hp : p < ws.length) (hev : w0 = Str.ofString "satellite" → 15 ≤ p → p % 2 = 0) : rdText ((linesW W).set i (ws.take p)) Str.empty = .error ((i : Int) + 1, colW ws p, miW3) := by
  have hl : (ws.take p).length = p := by rw [List.length_take]; omega
  have z := chg_cut w K (x := ws.take p) (p := p) (why := miW3) h0 hp (fun j hj => by rw [List.getElem?_take, if_pos hj]) (.inr hl) (.inl ⟨List.getElem?_eq_none (by omega), rfl⟩) (fun _ => hev)
  have e : colW (ws.take p) p = colW ws p := by
    unfold colW
    rw [List.take_take, Nat.min_self]
  rw [e] at z
  exact z
theorem col_end (hn : 0 < ws.length) : ((row ws).length : Int) + 2 = colW (ws ++ [Str.ofString "more"]) ws.length := by
  have := col_row (ws := ws ++ [Str.ofString "more"]) (p := ws.length) (by omega) (by rw [List.length_append, List.length_singleton]; omega)
  rw [List.take_left] at this
  exact this
theorem row_nil : row [] = row [Str.ofString ""] := by decide +kernel
theorem lnw_take (h : LnW ws) (h1 : 1 ≤ p) (hp : p < ws.length) : LnW (ws.take p) := ⟨fun z => by
  have := congrArg List.length z
  rw [List.length_take, List.length_nil] at this
  omega, fun x hx => h.wd x (List.mem_of_mem_take hx), by have := h.sz; rw [List.length_take]; omega⟩
theorem lnw_one : LnW [Str.ofString ""] := ⟨List.cons_ne_nil _ _, fun x hx => by rw [List.mem_singleton.mp hx]; exact lit_wd (by decide +kernel), by decide⟩
theorem lnw_more (h : LnW ws) (hz : ws.length ≤ 399) : LnW (ws ++ [Str.ofString "more"]) := ⟨by simp, fun x hx => by
  rcases List.mem_append.mp hx with k | k
  · exact h.wd x k
  · rw [List.mem_singleton.mp k]; exact lit_wd (by decide +kernel), by rw [List.length_append, List.length_singleton]; omega⟩
end
theorem and3J {K : PySem.W.Frag} {σ : L2.St} {H : Hp} {Q : Bool → Hp → Prop} {wp : Addr} {xs : List V} {w0 s : Str} {p : Nat} (h3 : σ[3]? = some (some (.ref wp))) (h4 : σ[4]? = some (some (.int (p : Int)))) (hw : SqL K H wp xs) (hx : xs[0]? = some (.str w0)) (h : Q (decide (w0 = s ∧ 15 ≤ p ∧ p % 2 = 1)) H) :
    tAnd (tTest (tOp rEq (tOp (rIxL K) (tVar 3) (tC (V.int 0))) (tC (V.str s)))) (tAnd (tTest (tOp (rI0 fun i j => V.bl (decide (j ≤ i))) (tVar 4) (tC (V.int 15)))) (tTest (tOp rEq (tOp (rI (fun _ j => 0 < j) fun i j => V.int (i % j)) (tVar 4) (tC (V.int 2))) (tC (V.int 1))))) σ H Q := by
  refine ⟨_, h3, wp, _, 0, _, rfl, rfl, hw, atI_nat (j := 0) hx, rfl, _, rfl, ?_⟩
  by_cases c : w0 = s
  · refine iteT' (decide_eq_true (congrArg V.str c)) ⟨_, h4, _, _, rfl, rfl, _, rfl, ?_⟩
    by_cases c2 : 15 ≤ p
    · refine iteT' (decide_eq_true (by omega)) ⟨_, h4, _, _, rfl, rfl, (by show (0 : Int) < 2; decide), rfl, _, rfl, ?_⟩
      have e : decide (V.int ((p : Int) % 2) = V.int 1) = decide (w0 = s ∧ 15 ≤ p ∧ p % 2 = 1) := decide_eq_decide.mpr ⟨fun z => ⟨c, c2, by have := V.int.inj z; omega⟩, fun z => congrArg V.int (by have := z.2.2; omega)⟩
      rw [← e] at h
      exact h
    · refine iteF' (decide_eq_false (by omega)) ?_
      rw [show decide (w0 = s ∧ 15 ≤ p ∧ p % 2 = 1) = false from decide_eq_false fun z => c2 z.2.1] at h
      exact h
  · refine iteF' (decide_eq_false fun z => c (V.str.inj z)) ?_
    rw [show decide (w0 = s ∧ 15 ≤ p ∧ p % 2 = 1) = false from decide_eq_false fun z => c z.1] at h
    exact h
def whyK : List (Key × V) := [(.inr (Str.ofString "word"), .str unW3), (.inr (Str.ofString "number"), .str nuE3), (.inr (Str.ofString "new"), .str naE3), (.inr (Str.ofString "known"), .str naE3)]
theorem wnJ_mem {m : Nat} : wnJ m = Str.ofString "word" ∨ wnJ m = Str.ofString "number" := by
  unfold wnJ
  split
  · exact .inl rfl
  · exact .inr rfl
theorem role_mem (w0 : Str) (p : Nat) : roleJ w0 p = Str.ofString "word" ∨ roleJ w0 p = Str.ofString "number" ∨ roleJ w0 p = Str.ofString "new" ∨ roleJ w0 p = Str.ofString "known" := by
  have wn : ∀ m, wnJ m = Str.ofString "word" ∨ wnJ m = Str.ofString "number" ∨ wnJ m = Str.ofString "new" ∨ wnJ m = Str.ofString "known" := fun m => by
    rcases wnJ_mem (m := m) with h | h
    · exact .inl h
    · exact .inr (.inl h)
  unfold roleJ
  repeat' split
  all_goals first | exact wn _ | exact .inl rfl | exact .inr (.inl rfl) | exact .inr (.inr (.inl rfl)) | exact .inr (.inr (.inr rfl))
theorem why_val (w0 : Str) (p : Nat) : valV (mergeK [] whyK) (.inr (roleJ w0 p)) = some (.str (whyJ (roleJ w0 p))) := by
  have a1 : valV (mergeK [] whyK) (.inr (Str.ofString "word")) = some (.str unW3) := by kernel_rfl
  have a2 : valV (mergeK [] whyK) (.inr (Str.ofString "number")) = some (.str nuE3) := by kernel_rfl
  have a3 : valV (mergeK [] whyK) (.inr (Str.ofString "new")) = some (.str naE3) := by kernel_rfl
  have a4 : valV (mergeK [] whyK) (.inr (Str.ofString "known")) = some (.str naE3) := by kernel_rfl
  have w1 : whyJ (Str.ofString "word") = unW3 := by decide +kernel
  have w2 : whyJ (Str.ofString "number") = nuE3 := by decide +kernel
  have w3 : whyJ (Str.ofString "new") = naE3 := by decide +kernel
  have w4 : whyJ (Str.ofString "known") = naE3 := by decide +kernel
  rcases role_mem w0 p with h | h | h | h
  · rw [h, a1, w1]
  · rw [h, a2, w2]
  · rw [h, a3, w3]
  · rw [h, a4, w4]
theorem why_so (r : Str) : PyData.strOk (whyJ r) = true := by
  unfold whyJ
  split
  · exact bad_so _ (by simp)
  · split
    · exact bad_so _ (by simp)
    · exact bad_so _ (by simp)
end DP
namespace DP
open PySem PySem.Spec PyProof.Rows L2
abbrev s_law : Stmt := topS 55
theorem sc_law : FnScope ["script", "lines", "row", "words", "place", "kind", "text", "column", "role", "changed", "due", "reasons", "line"] ["script"] (defScope s_law) := ⟨rfl, rfl, rfl, by decide +kernel, rfl, by decide +kernel, by decide +kernel⟩
section
variable {P : Program} {w : World} {K : PySem.W.Frag} {mg : Str → Option Value} {base : Heap} {CL CS CT CR CP CW aS aR fS fT fR fP CF : Addr}
def spLaw (K : PySem.W.Frag) : Sp := fun vs H Q _ => ∃ (a : Addr) (ns : List Int), vs = [.ref a] ∧ SqL K H a (ns.map V.int) ∧ ∀ H', Q (.bl true) H'
set_option maxHeartbeats 16000000 in
theorem d_law (T : TxtW K mg CL CS CT CR CP CW aS aR fS fT fR fP) (D_law_cell : DefOk P w K mg base CX0 1 "_law_cell" ["script", "k"] (DP.spCell K)) (D_law_world : DefOk P w K mg base CX0 4 "_law_world" ["script"] (spWorld K)) (D_law_lines : DefOk P w K mg base CX0 1 "_law_lines" ["world"] (spLawLines K))
    (D_law_fault : DefOk P w K mg base CX0 10 "_law_fault" ["text"] (spFault3 K)) (D_law_column : DefOk P w K mg base CX0 1 "_law_column" ["words", "place"] (spCol K)) (D_law_role : DefOk P w K mg base CX0 1 "_law_role" ["words", "place"] (spRole K)) (A : At K mg "law" s_law ["script"]) : DefOk P w K mg base CX0 11 "law" ["script"] (spLaw K) := by
  have B := T.L.B
  refine A.ok sc_law (fun vs H Q E h => ?_) (fun f cdv A outer s H vs Q E hr h => ?_)
  · obtain ⟨a, ns, rfl, _⟩ := h
    rfl
  obtain ⟨a, ns, rfl, hS, q⟩ := h
  refine ⟨_, pss_cons (ps_set (i := 1) sc_law.nd rfl (Or.inl rfl) (pe_f D_law_lines (hr.mono (by omega)) pass0 (pa_cons (pe_f D_law_world (hr.mono (by omega)) pass0 (pa_cons (pv 0) pa_nil)) pa_nil)))
  (pss_cons (ps_set (i := 2) sc_law.nd rfl (Or.inl rfl) (pe_op op_mod (pe_f D_law_cell (hr.mono (by omega)) pass0 (pa_cons (pv 0) (pa_cons pe_int pa_nil))) (pe_callB (call_len_seq) (by rfl) B.len (by decide +kernel) (pa_cons (pv 1) pa_nil))))
  (pss_cons (ps_set (i := 3) sc_law.nd rfl (Or.inl rfl) (pe_split (pe_ix ix_list (pv 1) (pv 2) (fun _ _ => rfl)) pe_str))
  (pss_cons (ps_set (i := 4) sc_law.nd rfl (Or.inl rfl) (pe_op op_mod (pe_f D_law_cell (hr.mono (by omega)) pass0 (pa_cons (pv 0) (pa_cons pe_int pa_nil))) (pe_callB (call_len_seq) (by rfl) B.len (by decide +kernel) (pa_cons (pv 3) pa_nil))))
  (pss_cons (ps_set (i := 5) sc_law.nd rfl (Or.inl rfl) (pe_op op_mod (pe_f D_law_cell (hr.mono (by omega)) pass0 (pa_cons (pv 0) (pa_cons pe_int pa_nil))) pe_int))
  (pss_cons (ps_set (i := 6) sc_law.nd rfl (Or.inl rfl) (pe_join pe_str (pe_lc (own := [("line", 12)])  rfl sc_law.nd (pi_list (pv 1)) (blkOk_by (own := [("line", 12)]) (N := ["script", "lines", "row", "words", "place", "kind", "text", "column", "role", "changed", "due", "reasons", "line"]) (sc := defScope s_law) (by decide +kernel)) (fun _ _ _ _ _ => pg_name (i := 12) sc_law.nd rfl (Or.inl rfl)) (fun _ _ _ _ _ => pts_nil) (fun _ _ _ _ _ => (pe_op op_add_str (pv 12) pe_str)))))
  (pss_cons (ps_if (pt_cmpR op_eq (pv 5) pe_int (nomark _))
      (pss_cons (ps_if (pt_cmpR (op_neD hr.units) (pe_f D_law_fault (hr.mono (by omega)) pass0 (pa_cons pe_str pa_nil)) (pe_tup (pa_cons pe_int (pa_cons pe_int (pa_cons pe_str pa_nil)))) (nomark _))
          (pss_one (ps_ret pe_bl))
          (pss_nil))
      (pss_one (ps_ret (pe_cmpR (op_eqD hr.units) (pe_f D_law_fault (hr.mono (by omega)) pass0 (pa_cons (pe_slice sl_str (pv 6) po_none (po_some (pe_un un_neg pe_int))) pa_nil)) (pe_tup (pa_cons (pe_callB (call_len_seq) (by rfl) B.len (by decide +kernel) (pa_cons (pv 1) pa_nil)) (pa_cons (pe_op op_add (pe_callB (call_len_str) (by rfl) B.len (by decide +kernel) (pa_cons (pe_ix ix_list (pv 1) (pe_un un_neg pe_int) (fun _ _ => rfl)) pa_nil)) pe_int) (pa_cons pe_str pa_nil)))) (nomark _)))))
      (pss_nil))
  (pss_cons (ps_set (i := 7) sc_law.nd rfl (Or.inl rfl) (pe_f D_law_column (hr.mono (by omega)) pass0 (pa_cons (pv 3) (pa_cons (pv 4) pa_nil))))
  (pss_cons (ps_set (i := 8) sc_law.nd rfl (Or.inl rfl) (pe_f D_law_role (hr.mono (by omega)) pass0 (pa_cons (pv 3) (pa_cons (pv 4) pa_nil))))
  (pss_cons (ps_set (i := 9) sc_law.nd rfl (Or.inl rfl) (pe_callTy (call_list_of) (by rfl) B.list (by decide +kernel) (pa_cons (pv 3) pa_nil)))
  (pss_cons (ps_if (pt_cmpR op_eq (pv 5) pe_int (nomark _))
      (pss_cons (ps_asg pe_str (pg_sub (pv 9) (pv 4) set_list))
      (pss_one (ps_set (i := 10) sc_law.nd rfl (Or.inl rfl) (pe_tup (pa_cons (pe_op op_add (pv 2) pe_int) (pa_cons (pv 7) (pa_cons pe_str pa_nil)))))))
      (pss_one (ps_if (pt_cmpR op_eq (pv 5) pe_int (nomark _))
          (pss_cons (ps_set (i := 9) sc_law.nd rfl (Or.inl rfl) (pe_slice sl_list (pv 3) po_none (po_some (pv 4))))
          (pss_cons (ps_set (i := 10) sc_law.nd rfl (Or.inl rfl) (pe_tup (pa_cons (pe_op op_add (pv 2) pe_int) (pa_cons (pe_op op_add (pe_callB (call_len_str) (by rfl) B.len (by decide +kernel) (pa_cons (pe_join pe_str (pv 9)) pa_nil)) pe_int) (pa_cons pe_str pa_nil)))))
          (pss_cons (ps_if (PW.pt (pw_and (pt_cmpR op_eq (pe_ix ix_list (pv 3) pe_int (fun _ _ => rfl)) pe_str (nomark _)) (pw_and (pt_cmpR op_ge (pv 4) pe_int (nomark _)) (pw_and1 (pt_cmpR op_eq (pe_op op_mod (pv 4) pe_int) pe_int (nomark _))))))
              (pss_one (ps_ret pe_bl))
              (pss_nil))
          (pss_one (ps_if (pt_cmpR op_eq (pv 4) pe_int (nomark _))
              (pss_one (ps_set (i := 10) sc_law.nd rfl (Or.inl rfl) (pe_tup (pa_cons (pe_op op_add (pv 2) pe_int) (pa_cons pe_int (pa_cons pe_str pa_nil))))))
              (pss_nil))))))
          (pss_one (ps_if (pt_cmpR op_eq (pv 5) pe_int (nomark _))
              (pss_cons (ps_set (i := 9) sc_law.nd rfl (Or.inl rfl) (pe_op op_cat (pv 3) (pe_lst (pa_cons pe_str pa_nil))))
              (pss_cons (ps_set (i := 10) sc_law.nd rfl (Or.inl rfl) (pe_tup (pa_cons (pe_op op_add (pv 2) pe_int) (pa_cons (pe_op op_add (pe_callB (call_len_str) (by rfl) B.len (by decide +kernel) (pa_cons (pe_ix ix_list (pv 1) (pv 2) (fun _ _ => rfl)) pa_nil)) pe_int) (pa_cons pe_str pa_nil)))))
              (pss_one (ps_if (pt_cmpR op_eq (pe_ix ix_list (pv 3) pe_int (fun _ _ => rfl)) pe_str (nomark _))
                  (pss_one (ps_set (i := 10) sc_law.nd rfl (Or.inl rfl) (pe_tup (pa_cons (pe_op op_add (pv 2) pe_int) (pa_cons (pe_op op_add (pe_callB (call_len_str) (by rfl) B.len (by decide +kernel) (pa_cons (pe_ix ix_list (pv 1) (pv 2) (fun _ _ => rfl)) pa_nil)) pe_int) (pa_cons pe_str pa_nil))))))
                  (pss_nil)))))
              (pss_cons (ps_asg (pe_ix ix_list (pe_lst (pa_cons pe_str (pa_cons pe_str (pa_cons pe_str (pa_cons pe_str (pa_cons pe_str (pa_cons pe_str pa_nil))))))) (pe_op op_mod (pe_f D_law_cell (hr.mono (by omega)) pass0 (pa_cons (pv 0) (pa_cons pe_int pa_nil))) pe_int) (fun _ _ => rfl)) (pg_sub (pv 9) (pv 4) set_list))
              (pss_cons (ps_set (i := 11) sc_law.nd rfl (Or.inl rfl) (pe_disp (pps_cons pe_str pe_str (pps_cons pe_str pe_str (pps_cons pe_str pe_str (pps_cons pe_str pe_str pps_nil)))) (by rfl) (by rfl) (fun z => by cases z) (by decide)))
              (pss_one (ps_set (i := 10) sc_law.nd rfl (Or.inl rfl) (pe_tup (pa_cons (pe_op op_add (pv 2) pe_int) (pa_cons (pv 7) (pa_cons (pe_dget (hu_of hr) (pv 11) (pv 8) (fun _ _ => rfl)) pa_nil)))))))))))))
  (pss_cons (ps_asg (pe_join pe_str (pv 9)) (pg_sub (pv 1) (pv 2) set_list))
  (pss_one (ps_ret (pe_cmpR (op_eqD hr.units) (pe_f D_law_fault (hr.mono (by omega)) pass0 (pa_cons (pe_join pe_str (pe_lc (own := [("line", 12)])  rfl sc_law.nd (pi_list (pv 1)) (blkOk_by (own := [("line", 12)]) (N := ["script", "lines", "row", "words", "place", "kind", "text", "column", "role", "changed", "due", "reasons", "line"]) (sc := defScope s_law) (by decide +kernel)) (fun _ _ _ _ _ => pg_name (i := 12) sc_law.nd rfl (Or.inl rfl)) (fun _ _ _ _ _ => pts_nil) (fun _ _ _ _ _ => (pe_op op_add_str (pv 12) pe_str)))) pa_nil)) (pv 10) (nomark _)))))))))))))))
    , ?_⟩
  refine ⟨_, rfl, a, ns, rfl, hS, fun wd H1 W n0 s1 wg hwd => ⟨wd, W, rfl, wg, hwd, fun L H2 s2 hLn hL => ?_⟩⟩
  have wok := wg.ok
  have hS2 := s2.seq (s1.seq hS)
  clear hwd s1 s2 hS
  have nL := linesW_len wok
  have nL1 : 0 < (linesW W).length := by unfold linesW; rw [List.length_cons]; omega
  have lnw := lnw_of wg
  have zz := sizeLine_eq
  refine ⟨_, rfl, a, ns, 40, rfl, hS2, by decide, fun v40 => ?_⟩
  refine ⟨_, rfl, L, _, rfl, .inl (SqL.of hL), _, _, rfl, rfl, (by rw [List.length_map, List.length_map]; show (0 : Int) < ((linesW W).length : Int); omega), ?_⟩
  obtain ⟨i, hi, ei⟩ : ∃ i : Nat, i < (linesW W).length ∧ v40 % (((((linesW W).map row).map V.str).length : Nat) : Int) = (i : Int) := by
    rw [List.length_map, List.length_map]
    have h1 := Int.emod_nonneg v40 (show (((linesW W).length : Nat) : Int) ≠ 0 by omega)
    have h2 := Int.emod_lt_of_pos v40 (show (0 : Int) < (((linesW W).length : Nat) : Int) by omega)
    exact ⟨(v40 % (((linesW W).length : Nat) : Int)).toNat, by omega, by omega⟩
  dsimp only
  rw [ei]
  obtain ⟨ws, hws⟩ : ∃ ws, (linesW W)[i]? = some ws := ⟨_, List.getElem?_eq_getElem hi⟩
  have lw := lnw ws (List.mem_of_getElem? hws)
  have K0 := lk_of wok hws
  obtain ⟨w0, h0, hw0, hh⟩ := lk_w0 K0
  have rowat : ∀ {i : Nat} {l : List Str}, (linesW W)[i]? = some l → (((linesW W).map row).map V.str)[i]? = some (V.str (row l)) := fun e => by rw [List.getElem?_map, List.getElem?_map, e]; rfl
  have lr1 := row_lenX lw.wd
  have ls1 := lw.sz
  have sp0 : ((Str.ofString " " : Str).length == 0) = false := by decide +kernel
  refine ⟨_, rfl, _, rfl, L, _, _, _, rfl, rfl, SqL.of hL, atI_nat (rowat hws), ⟨_, rfl⟩, _, _, rfl, rfl, sp0, (by omega), fun wp hwp => ?_⟩
  rw [show Txt.split (row ws) (Str.ofString " ") = ws from row_splitX lw.ne lw.wd]
  have s3 := same_new hwp (.lst (ws.map V.str))
  have gw : (upd H2 wp (.lst (ws.map V.str))) wp = some (.lst (ws.map V.str)) := upd_same
  have hS3 := s3.seq hS2
  have hL3 := s3 _ _ hL
  have nLw : L ≠ wp := ne_of_none hL hwp
  generalize upd H2 wp (.lst (ws.map V.str)) = H3 at s3 gw hS3 hL3
  have hwl : 0 < ws.length := List.length_pos_iff.mpr lw.ne
  refine ⟨_, rfl, a, ns, 41, rfl, hS3, by decide, fun v41 => ?_⟩
  refine ⟨_, rfl, wp, _, rfl, .inl (SqL.of gw), _, _, rfl, rfl, (by rw [List.length_map]; show (0 : Int) < (ws.length : Int); omega), ?_⟩
  obtain ⟨p, hp, ep⟩ : ∃ p : Nat, p < ws.length ∧ v41 % (((ws.map V.str).length : Nat) : Int) = (p : Int) := by
    rw [List.length_map]
    have h1 := Int.emod_nonneg v41 (show ((ws.length : Nat) : Int) ≠ 0 by omega)
    have h2 := Int.emod_lt_of_pos v41 (show (0 : Int) < ((ws.length : Nat) : Int) by omega)
    exact ⟨(v41 % ((ws.length : Nat) : Int)).toNat, by omega, by omega⟩
  dsimp only
  rw [ep]
  refine ⟨_, rfl, a, ns, 42, rfl, hS3, by decide, fun v42 => ⟨_, _, rfl, rfl, (by show (0 : Int) < 7; decide), ?_⟩⟩
  dsimp only
  generalize v42 % 7 = kd
  -- the text
  have lok : ∀ x ∈ (linesW W).map row, x.length ≤ 16400 := fun x hx => by
    obtain ⟨l, hl, rfl⟩ := List.mem_map.mp hx
    have h2 := row_lenX (lnw l hl).wd
    have h3 := (lnw l hl).sz
    omega
  have gq : ∀ rows : List Str, Txt.join (Str.ofString "") (rows.map fun r => r ++ nl) = glue rows := fun rows => by
    rw [show (Str.ofString "" : Str) = Str.empty from rfl, join_nl]
  have nl1 : (Str.ofString "\n" : Str).length ≤ 1 := by decide +kernel
  have em0 : (Str.ofString "" : Str).length = 0 := rfl
  show tSeq (tAsg _ (gName 6)) _ _ _ _
  refine gl3_set (K := K) rfl hL3 lok (by rw [List.length_map]; omega) (fun H4 s4 => ?_)
  have gw4 := s4 _ _ gw
  have hS4 := s4.seq hS3
  have hL4 := s4 _ _ hL3
  clear hL3 hL hS2 gw hS3 s3 s4 hLn hwp
  have nrow : (linesW W).map row ≠ [] := fun z => by rw [List.map_eq_nil_iff] at z; rw [z] at nL1; exact absurd nL1 (Nat.lt_irrefl _)
  refine ⟨_, rfl, rfl, _, rfl, ite2 (fun k0 => ?_) (fun k0 => ?_)⟩
  · refine ⟨Str.ofString "", [], Str.ofString "", ((1, 1, "missing line") : Flt), rfl, split_none, fun l hl => absurd hl List.not_mem_nil, by decide, by decide, by decide, rfl, fun t1 H5 s5 ht1 => ?_⟩
    refine ⟨(by show 3 ≤ sizeLine; decide), fun t2 ht2 => ?_⟩
    have so1 : PyData.strOk ("missing line" : Str) = true := by decide +kernel
    refine ⟨.tuple [.int 1, .int 1, .str "missing line"], .tuple [.int 1, .int 1, .str "missing line"], dp_same (same_new ht2 _) (dp3 ht1), dp3 (SqT.of upd_same), shp5 so1, shp5 so1, _, rfl, iteF' (by rw [eqv5 so1]; rfl) ?_⟩
    have s6 := s5.trans (same_new ht2 (.tup [V.int 1, V.int 1, V.str "missing line"]))
    have hL6 := s6 _ _ hL4
    generalize upd H5 t2 (.tup [V.int 1, V.int 1, V.str "missing line"]) = H6 at s6 hL6
    have hne : (linesW W) ≠ [] := fun z => by rw [z] at nL1; exact absurd nL1 (Nat.lt_irrefl _)
    have hcat := List.dropLast_concat_getLast hne
    have hlast : (linesW W)[(linesW W).length - 1]? = some ((linesW W).getLast hne) := (List.getLast?_eq_getElem? (l := linesW W)) ▸ (List.getLast?_eq_some_getLast hne)
    generalize hz : (linesW W).getLast hne = z at hcat hlast
    have lz := lnw z (List.mem_of_getElem? hlast)
    obtain ⟨z0, hz0, hz1, _⟩ := lk_w0 (lk_of wok hlast)
    have hzr := row_ne hz0 hz1
    have lrz := row_lenX lz.wd
    have lsz := lz.sz
    have hdl : (linesW W).dropLast.length + 1 = (linesW W).length := by rw [List.length_dropLast]; omega
    have hgl := glue_lenX lnw (by omega)
    have hjl := len_join_le nrow
    have hsp : Txt.split (cutS (glue ((linesW W).map row)) none (some (-1))) nl = (linesW W).dropLast.map row ++ [row z] := by
      rw [cut_glue nrow, split_rows nrow fun r hr => by
        obtain ⟨l, hl, rfl⟩ := List.mem_map.mp hr
        exact row_freeX (lnw l hl).wd]
      conv => lhs; rw [← hcat]
      rw [List.map_append]
      rfl
    have hmem : ∀ l ∈ (linesW W).dropLast, l ∈ linesW W := fun l hl => List.dropLast_subset _ hl
    refine ⟨_, rfl, _, rfl, -1, rfl, glue ((linesW W).map row), rfl, Nat.le_trans hgl (by omega), ?_⟩
    refine ⟨_, (linesW W).dropLast, row z, ((((linesW W).dropLast.length : Int) + 1, ((row z).length : Int) + 1, "newline expected") : Flt), rfl, hsp, fun l hl => (lnw l (hmem l hl)).ok, by omega, by rw [cut_glue nrow]; omega, by omega, (if_neg hzr), fun t3 H7 s7 ht3 => ?_⟩
    have hL7 := s7 _ _ hL6
    have hat : atI (((linesW W).map row).map V.str) (-1) = some (V.str (row z)) := by
      conv => lhs; rw [← hcat]
      rw [List.map_append, List.map_append]
      exact atI_last _ _
    have hlen : ((((linesW W).map row).map V.str).length : Int) = ((linesW W).dropLast.length : Int) + 1 := by
      rw [List.length_map, List.length_map]
      omega
    refine ⟨_, rfl, L, _, rfl, .inl (SqL.of hL7), _, rfl, _, rfl, L, _, -1, _, rfl, rfl, SqL.of hL7, hat, _, rfl, (by omega), _, _, rfl, rfl, (by show 3 ≤ sizeLine; decide), fun t4 ht4 => ?_⟩
    have so2 : PyData.strOk ("newline expected" : Str) = true := by decide +kernel
    have e4 : SqT K (upd H7 t4 (.tup [V.int ((((linesW W).map row).map V.str).length : Int), V.int (((row z).length : Int) + 1), V.str "newline expected"])) t4 [V.int (((linesW W).dropLast.length : Int) + 1), V.int (((row z).length : Int) + 1), V.str "newline expected"] := SqT.of (by rw [upd_same, hlen])
    refine ⟨.tuple [.int (((linesW W).dropLast.length : Int) + 1), .int (((row z).length : Int) + 1), .str "newline expected"], .tuple [.int (((linesW W).dropLast.length : Int) + 1), .int (((row z).length : Int) + 1), .str "newline expected"], dp_same (same_new ht4 _) (dp3 ht3), dp3 e4, shp5 so2, shp5 so2, ?_⟩
    rw [eqv5 so2]
    exact q _
  have hK := K0
  refine ⟨_, rfl, _, rfl, wp, ws, p, rfl, SqL.of gw4, hp, lw.wd, by omega, fun H5 s5 => ?_⟩
  have gw5 := s5 _ _ gw4
  have hL5 := s5 _ _ hL4
  have hS5 := s5.seq hS4
  refine ⟨_, rfl, _, rfl, wp, ws, p, w0, rfl, SqL.of gw5, h0, fun z => Nat.lt_of_lt_of_le hp (hh z), fun H6 s6 => ?_⟩
  have gw6 := s6 _ _ gw5
  have hL6 := s6 _ _ hL5
  have hS6 := s6.seq hS5
  refine ⟨_, rfl, wp, _, rfl, .inl (SqL.of gw6), fun ch hch => ?_⟩
  have s7 := same_new hch (.lst (ws.map V.str))
  have gw7 := s7 _ _ gw6
  have hL7 := s7 _ _ hL6
  have hS7 := s7.seq hS6
  have gc7 : (upd H6 ch (.lst (ws.map V.str))) ch = some (.lst (ws.map V.str)) := upd_same
  have nLc : L ≠ ch := ne_of_none hL6 hch
  generalize upd H6 ch (.lst (ws.map V.str)) = H7 at s7 gw7 hL7 hS7 gc7
  clear gw4 hL4 hS4 gw5 hL5 hS5 s5 gw6 hL6 hS6 s6 hch
  have hsw := sum_wd lw.wd
  refine ⟨_, rfl, rfl, _, rfl, ite2 (fun k1 => ?_) (fun k1 => ?_)⟩
  · refine ⟨_, rfl, _, rfl, ch, _, _, p, rfl, rfl, gc7, ixN_natW (by rw [List.length_map]; exact hp), ?_⟩
    have hL8 : (upd H7 ch (.lst ((ws.map V.str).set p (V.str (Str.ofString ""))))) L = some (.lst (((linesW W).map row).map V.str)) := (upd_ne nLc).trans hL7
    have hc8 : (upd H7 ch (.lst ((ws.map V.str).set p (V.str (Str.ofString ""))))) ch = some (.lst ((ws.set p (Str.ofString "")).map V.str)) := by rw [upd_same, List.map_set]
    generalize upd H7 ch (.lst ((ws.map V.str).set p (V.str (Str.ofString "")))) = H8 at hL8 hc8
    refine ⟨_, rfl, _, _, rfl, rfl, _, rfl, (by show 3 ≤ sizeLine; decide), fun t ht => ?_⟩
    have s9 := same_new ht (.tup [V.int ((i : Int) + 1), V.int (colW ws p), V.str emW3])
    have hx := lnw_setW (p := p) lw (u := Str.ofString "") (lit_wd (by decide +kernel))
    show finT3 K _ _ _
    exact fin3 (L := linesW W) (i := i) (x := ws.set p (Str.ofString "")) (y := ws.set p (Str.ofString "")) (c := colW ws p) (why := emW3) rfl (s9 _ _ hL8) (SqL.of (s9 _ _ hc8)) rfl (by have := sum_wd hx.wd; have := hx.sz; omega) (SqT.of upd_same) lnw (by omega) hi hx (set_chg wok K0 h0 hp (.inr (.inl ⟨rfl, rfl⟩))) (bad_so _ (by simp)) q
  refine ⟨_, rfl, rfl, _, rfl, ite2 (fun k2 => ?_) (fun k2 => ?_)⟩
  · refine ⟨_, rfl, _, rfl, _, rfl, wp, _, rfl, SqL.of gw7, fun c2 hc2 => ?_⟩
    have s8 := same_new hc2 (.lst (cutV (ws.map V.str) none (some (p : Int))))
    have gc8 : (upd H7 c2 (.lst (cutV (ws.map V.str) none (some (p : Int))))) c2 = some (.lst ((ws.take p).map V.str)) := by
      rw [upd_same, cut_toW (by rw [List.length_map]; omega), List.map_take]
    have hL8 := s8 _ _ hL7
    have gw8 := s8 _ _ gw7
    generalize upd H7 c2 (.lst (cutV (ws.map V.str) none (some (p : Int)))) = H8 at s8 gc8 hL8 gw8
    have wdt : ∀ x ∈ ws.take p, WdX x := fun x hx => lw.wd x (List.mem_of_mem_take hx)
    have lt1 : (ws.take p).length ≤ 400 := by rw [List.length_take]; omega
    have st1' := sum_wd wdt
    have lrt := row_lenX wdt
    have e1 : (Str.ofString " " : Str).length = 1 := by decide +kernel
    have ej2 : Txt.join (Str.ofString " ") (ws.take p) = row (ws.take p) := TL.join_eq sp _
    refine ⟨_, rfl, _, _, rfl, rfl, ⟨_, rfl⟩, _, rfl, _, c2, ws.take p, rfl, rfl, .inl (SqL.of gc8), (by rw [e1]; omega), _, rfl, (by rw [ej2]; omega), _, _, rfl, rfl, (by show 3 ≤ sizeLine; decide), fun t ht => ?_⟩
    rw [ej2]
    have s9 := same_new ht (.tup [V.int ((i : Int) + 1), V.int (((row (ws.take p)).length : Int) + 2), V.str miW3])
    have gt9 : (upd H8 t (.tup [V.int ((i : Int) + 1), V.int (((row (ws.take p)).length : Int) + 2), V.str miW3])) t = some (.tup [V.int ((i : Int) + 1), V.int (((row (ws.take p)).length : Int) + 2), V.str miW3]) := upd_same
    have gc9 := s9 _ _ gc8
    have hL9 := s9 _ _ hL8
    have gw9 := s9 _ _ gw8
    dsimp only
    generalize upd H8 t (.tup [V.int ((i : Int) + 1), V.int (((row (ws.take p)).length : Int) + 2), V.str miW3]) = H9 at s9 gt9 gc9 hL9 gw9
    have hx0 : (ws.map V.str)[0]? = some (V.str w0) := by rw [List.getElem?_map, h0]; rfl
    refine and3J (K := K) (w0 := w0) (p := p) (s := Str.ofString "satellite") rfl rfl (SqL.of gw9) hx0 (ite2 (fun c => q _) (fun c => ?_))
    have c' : ¬ (w0 = Str.ofString "satellite" ∧ 15 ≤ p ∧ p % 2 = 1) := fun z => c (decide_eq_true z)
    refine ⟨_, rfl, rfl, _, rfl, ite2 (fun c5 => ?_) (fun c5 => ?_)⟩
    · have p0 : p = 0 := by have := V.int.inj (of_decide_eq_true c5); omega
      subst p0
      refine ⟨_, rfl, _, _, rfl, rfl, (by show 3 ≤ sizeLine; decide), fun t5 ht5 => ?_⟩
      have s10 := same_new ht5 (.tup [V.int ((i : Int) + 1), V.int 1, V.str emW3])
      show finT3 K _ _ _
      exact fin3 (L := linesW W) (i := i) (x := [Str.ofString ""]) (y := ws.take 0) (c := 1) (why := emW3) rfl (s10 _ _ hL9) (SqL.of (s10 _ _ gc9)) row_nil (by omega) (SqT.of upd_same) lnw (by omega) hi lnw_one (chg_none wok K0) (bad_so _ (by simp)) q
    · have p0 : p ≠ 0 := fun z => c5 (decide_eq_true (by rw [z]; rfl))
      have ec := col_row (ws := ws) (p := p) (by omega) hp
      rw [ec] at gt9
      have hx := lnw_take (p := p) lw (by omega) hp
      show finT3 K _ _ _
      exact fin3 (L := linesW W) (i := i) (x := ws.take p) (y := ws.take p) (c := colW ws p) (why := miW3) rfl hL9 (SqL.of gc9) rfl (by omega) (SqT.of gt9) lnw (by omega) hi hx (take_chg wok K0 h0 hp (fun z1 z2 => by have h5 : ¬ p % 2 = 1 := fun z3 => c' ⟨z1, z2, z3⟩; omega)) (bad_so _ (by simp)) q
  refine ⟨_, rfl, rfl, _, rfl, ite2 (fun k3 => ?_) (fun k3 => ?_)⟩
  · have hz := ln_sz wg K0
    refine ⟨_, rfl, (by show 1 ≤ sizeLine; decide), fun m hm => ?_⟩
    have s8 := same_new hm (.lst [V.str "more"])
    have gm : (upd H7 m (.lst [V.str "more"])) m = some (.lst [V.str "more"]) := upd_same
    have hL8 := s8 _ _ hL7
    have gw8 := s8 _ _ gw7
    generalize upd H7 m (.lst [V.str "more"]) = H8 at s8 gm hL8 gw8
    refine ⟨wp, m, _, _, rfl, rfl, gw8, gm, (by rw [List.length_map]; show _ + 1 ≤ sizeLine; omega), fun c3 hc3 => ?_⟩
    have s9 := same_new hc3 (.lst (ws.map V.str ++ [V.str "more"]))
    have gc9 : (upd H8 c3 (.lst (ws.map V.str ++ [V.str "more"]))) c3 = some (.lst ((ws ++ [Str.ofString "more"]).map V.str)) := by rw [upd_same, List.map_append]; rfl
    have hL9 := s9 _ _ hL8
    have gw9 := s9 _ _ gw8
    generalize upd H8 c3 (.lst (ws.map V.str ++ [V.str "more"])) = H9 at s9 gc9 hL9 gw9
    have ec := col_end (ws := ws) hwl
    have hx := lnw_more lw (by omega)
    have hsum : (((ws ++ [Str.ofString "more"]).map fun x => x.length).sum + (ws ++ [Str.ofString "more"]).length ≤ 16777216) := by have := sum_wd hx.wd; have := hx.sz; omega
    have hx0 : (ws.map V.str)[0]? = some (V.str w0) := by rw [List.getElem?_map, h0]; rfl
    refine ⟨_, rfl, _, _, rfl, rfl, _, rfl, _, rfl, L, _, _, _, rfl, rfl, SqL.of hL9, atI_nat (rowat hws), _, rfl, (by omega), _, _, rfl, rfl, (by show 3 ≤ sizeLine; decide), fun t ht => ?_⟩
    dsimp only
    rw [ec]
    have s10 := same_new ht (.tup [V.int ((i : Int) + 1), V.int (colW (ws ++ [Str.ofString "more"]) ws.length), V.str unW3])
    have gt10 : (upd H9 t (.tup [V.int ((i : Int) + 1), V.int (colW (ws ++ [Str.ofString "more"]) ws.length), V.str unW3])) t = some (.tup [V.int ((i : Int) + 1), V.int (colW (ws ++ [Str.ofString "more"]) ws.length), V.str unW3]) := upd_same
    have gc10 := s10 _ _ gc9
    have hL10 := s10 _ _ hL9
    have gw10 := s10 _ _ gw9
    generalize upd H9 t (.tup [V.int ((i : Int) + 1), V.int (colW (ws ++ [Str.ofString "more"]) ws.length), V.str unW3]) = H10 at s10 gt10 gc10 hL10 gw10
    have hce := chg_more wok K0 h0
    refine ⟨_, rfl, wp, _, 0, _, rfl, rfl, SqL.of gw10, atI_nat (j := 0) hx0, rfl, _, rfl, ite2 (fun c => ?_) (fun c => ?_)⟩
    · have cw : w0 = Str.ofString "satellite" := V.str.inj (of_decide_eq_true c)
      rw [if_pos cw] at hce
      refine ⟨_, rfl, _, _, rfl, rfl, _, rfl, _, rfl, L, _, _, _, rfl, rfl, SqL.of hL10, atI_nat (rowat hws), _, rfl, (by omega), _, _, rfl, rfl, (by show 3 ≤ sizeLine; decide), fun t5 ht5 => ?_⟩
      dsimp only
      rw [ec]
      have s11 := same_new ht5 (.tup [V.int ((i : Int) + 1), V.int (colW (ws ++ [Str.ofString "more"]) ws.length), V.str nuE3])
      show finT3 K _ _ _
      exact fin3 (L := linesW W) (i := i) (x := ws ++ [Str.ofString "more"]) (y := ws ++ [Str.ofString "more"]) (c := colW (ws ++ [Str.ofString "more"]) ws.length) (why := nuE3) rfl (s11 _ _ hL10) (SqL.of (s11 _ _ gc10)) rfl hsum (SqT.of upd_same) lnw (by omega) hi hx hce (bad_so _ (by simp)) q
    · have cw : w0 ≠ Str.ofString "satellite" := fun z => c (decide_eq_true (congrArg V.str z))
      rw [if_neg cw] at hce
      show finT3 K _ _ _
      exact fin3 (L := linesW W) (i := i) (x := ws ++ [Str.ofString "more"]) (y := ws ++ [Str.ofString "more"]) (c := colW (ws ++ [Str.ofString "more"]) ws.length) (why := unW3) rfl hL10 (SqL.of gc10) rfl hsum (SqT.of gt10) lnw (by omega) hi hx hce (bad_so _ (by simp)) q
  -- a word that doesn't fit
  refine ⟨(by show 6 ≤ sizeLine; decide), fun l6 hl6 => ?_⟩
  have s8 := same_new hl6 (.lst [V.str "-1", V.str "007", V.str "12345678", V.str "4x", V.str "Zz9_", V.str "a23456789012345b"])
  have g8 : (upd H7 l6 (.lst [V.str "-1", V.str "007", V.str "12345678", V.str "4x", V.str "Zz9_", V.str "a23456789012345b"])) l6 = some (.lst (badL.map V.str)) := upd_same
  have gc8 := s8 _ _ gc7
  have hL8 := s8 _ _ hL7
  have hS8 := s8.seq hS7
  generalize upd H7 l6 (.lst [V.str "-1", V.str "007", V.str "12345678", V.str "4x", V.str "Zz9_", V.str "a23456789012345b"]) = H8 at s8 g8 gc8 hL8 hS8
  refine ⟨_, rfl, a, ns, 43, rfl, hS8, by decide, fun v43 => ⟨_, _, rfl, rfl, (by show (0 : Int) < 6; decide), ?_⟩⟩
  obtain ⟨m, hm, em⟩ : ∃ m : Nat, m < 6 ∧ v43 % 6 = (m : Int) := ⟨(v43 % 6).toNat, by omega, by omega⟩
  dsimp only
  rw [em]
  obtain ⟨u, hu⟩ : ∃ u, badL[m]? = some u := ⟨_, List.getElem?_eq_getElem (show m < badL.length from hm)⟩
  have hub := List.mem_of_getElem? hu
  have hx := lnw_setW (p := p) lw (bad_wd u hub)
  refine ⟨l6, _, _, _, rfl, rfl, SqL.of g8, atI_nat (by rw [List.getElem?_map, hu]; rfl), ?_⟩
  refine ⟨_, rfl, _, rfl, ch, _, _, p, rfl, rfl, gc8, ixN_natW (by rw [List.length_map]; exact hp), ?_⟩
  have hL9 : (upd H8 ch (.lst ((ws.map V.str).set p (V.str u)))) L = some (.lst (((linesW W).map row).map V.str)) := (upd_ne nLc).trans hL8
  have hc9 : (upd H8 ch (.lst ((ws.map V.str).set p (V.str u)))) ch = some (.lst ((ws.set p u).map V.str)) := by rw [upd_same, List.map_set]
  generalize upd H8 ch (.lst ((ws.map V.str).set p (V.str u))) = H9 at hL9 hc9
  refine fun d hd => ⟨upd_same, whyK, rfl, by decide, ?_⟩
  rw [upd_upd]
  have s10 := same_new hd (.dK (mergeK [] whyK))
  have gd10 : (upd H9 d (.dK (mergeK [] whyK))) d = some (.dK (mergeK [] whyK)) := upd_same
  have hL10 := s10 _ _ hL9
  have hc10 := s10 _ _ hc9
  generalize upd H9 d (.dK (mergeK [] whyK)) = H10 at s10 gd10 hL10 hc10
  have hwhy := why_role K0 h0 hp
  have hdg : DGet H10 d (.str (roleJ w0 p)) (some (.str (ρL w0 p))) := by
    have z := DGet.k (k := .inr (roleJ w0 p)) gd10
    rw [why_val, hwhy] at z
    exact z
  refine ⟨_, rfl, _, _, rfl, rfl, _, rfl, _, rfl, _, rfl, d, _, rfl, hdg, (by show 3 ≤ sizeLine; decide), fun t ht => ?_⟩
  have s11 := same_new ht (.tup [V.int ((i : Int) + 1), V.int (colW ws p), V.str (ρL w0 p)])
  show finT3 K _ _ _
  exact fin3 (L := linesW W) (i := i) (x := ws.set p u) (y := ws.set p u) (c := colW ws p) (why := ρL w0 p) rfl (s11 _ _ hL10) (SqL.of (s11 _ _ hc10)) rfl (by have := sum_wd hx.wd; have := hx.sz; omega) (SqT.of upd_same) lnw (by omega) hi hx (set_chg wok K0 h0 hp (.inr (.inr ⟨u, rfl, hub, rfl⟩))) (by rw [← hwhy]; exact why_so _) q
end
end DP
namespace DP
open PySem PySem.Spec PyProof.Rows L2
theorem tf_mk {h : Heap} {K : PySem.W.Frag} {mg : Str → Option Value} {CT fI cda cc N : Addr} {oc kV doc pm ct cl ccl : Value} {od an cld cdd dd : Option Addr} {osl csl ccs : Array (Option Value)} {vs : Array Value} {tf : Tok}
    {nm q : Str} {bs bm sub : List Value} {sn : List Str} {ab : Bool} {col : Option Bool} {k0 k1 k2 k3 k5 : Option Value} (X : K.In h) (G : h.Ns mainGlobals mg) (g : PySem.W.nsIn K mainGlobals "TextFault" = some (some (.ref CT)))
    (a : PySem.W.findIn K (.ref CT) "__init__" = some (some (.ref fI))) (ty : PySem.W.typeIn K (.ref fI) = some (.type "function"))
    (l : K.lookup fI = some ⟨oc, od, .func (PySem.W.ksFn "__init__" "TextFault.__init__" (defArgs s_TextFault___init__) (defBody s_TextFault___init__) (defScope s_TextFault___init__) .none kV doc pm an (.ref cda) ct cc), osl⟩)
    (c : PySem.W.codeIn K (.ref cda) "TextFault.__init__" = true) (ox : K.lookup CT = some (excClassObj nm q CT N bs bm true sn sub ab col dd k0 k1 k2 k3 k5 "ValueError.__new__")) (hbm : PySem.HandSPX.refsVE bm = true)
    (sa : PySem.W.findIn K (.ref CT) "__setattr__" = some (some (.builtin "object.__setattr__"))) (exC : PySem.W.subIn K (.ref CT) (.type "BaseException") = some true) (tyC : PySem.W.typeIn K (.ref CT) = some (.type "type")) (kC : PySem.W.keepIn K (.ref CT) = true)
    (sb : PySem.W.subIn K (.ref CT) (.type "ValueError") = some true) (along : PySem.W.ks_superIn K CT CT "__init__" = some (some (.builtin "ValueError.__init__"))) (third : PySem.W.nsIn K cStatics "thirdparty.any" = some none)
    (su : PySem.W.nsIn K mainGlobals "super" = some none) (cd1 : K.lookup cda = some ⟨ccl, cdd, .fields vs, ccs⟩) (cd2 : vs[2]? = some (.str "/claim/cut.py" tf)) (ce : K.lookup cc = some ⟨cl, cld, .cell (some (.ref CT)), csl⟩)
    (nl : PySem.W.findIn K (.ref CT) "line" = some none) (nc : PySem.W.findIn K (.ref CT) "column" = some none) (nr : PySem.W.findIn K (.ref CT) "reason" = some none)
    (ga : PySem.W.findIn K (.ref CT) "__getattribute__" = some (some (.builtin "BaseException.__getattribute__"))) (gg : PySem.W.findIn K (.ref CT) "__getattr__" = some none) (hd : PySem.W.hasDictIn K CT = true)
    (iT : PySem.W.isClsIn K CT = true) (sT : PySem.W.subIn K (.ref CT) (.ref CT) = some true) : TfAt K mg CT :=
  ⟨PySem.W.mg_of X G g, ⟨fI, cda, cc, oc, kV, doc, pm, ct, od, an, osl, a, ty, l, c, ⟨⟨⟨nm, q, N, bs, bm, sn, sub, ab, col, dd, k0, k1, k2, k3, k5, ox, hbm⟩, sa, exC, tyC, kC⟩, sb, along, third, PySem.W.mg_none_of X G su, ⟨ccl, cdd, vs, ccs, tf, cd1, cd2⟩, ⟨cl, cld, csl, ce⟩⟩⟩,
    nl, nc, nr, ⟨ga, gg, exC, hd⟩, iT, sT, exC, tyC⟩
end DP
namespace DP
open PySem PySem.Spec PyProof.Rows L2
section
variable {h : Heap} {K : PySem.W.Frag} {mg : Str → Option Value} {x m qual : Str} {st : Stmt} {ps : List Str} {C f p T : Addr} {oc oc' kV doc pm cdv ct : Value} {od od' an : Option Addr} {osl osl' : Array (Option Value)} {rest : List Value}
theorem cls_mk (X : K.In h) (G : h.Ns mainGlobals mg) (g : PySem.W.nsIn K mainGlobals x = some (some (.ref C))) (pg : PySem.W.plainGet K C Str.empty = true) (hd : PySem.W.hasDictIn K C = true) (po : PySem.W.plainOver K C = true)
    (sa : PySem.W.findIn K (.ref C) "__setattr__" = some (some (.builtin "object.__setattr__"))) (mk : PySem.W.makesIn K C = true) (kp : PySem.W.keepIn K (.ref C) = true) : ClsAt K mg x C := ⟨⟨pg, hd, po, sa⟩, mk, kp, PySem.W.mg_of X G g⟩
theorem met_mk (a : PySem.W.findIn K (.ref C) m = some (some (.ref f))) (i : PySem.W.isFn K (.ref f) = true) (l : K.lookup f = some ⟨oc, od, .func (PySem.W.fnOf m qual (defArgs st) (defBody st) (defScope st) .none kV doc pm an cdv ct), osl⟩)
    (c : PySem.W.codeIn K cdv qual = true) (k : PySem.W.keepIn K (.ref f) = true)
    (hb : ∀ (kV doc pm : Value) (an : Option Addr) (cdv ct : Value) (us : List Value), us.length = ps.length → bindArgs (PySem.W.fnOf m qual (defArgs st) (defBody st) (defScope st) .none kV doc pm an cdv ct) ⟨us, []⟩ = pure (ps.zip us)) : MAt K C m qual st ps := by
  have F := fun_mk (st := st) l c k
  exact ⟨f, _, F, ⟨a, i, k⟩, F.binds hb⟩
/-- one default, an int -/
theorem metD_mk {d : Int} {t : Tok} {n : Nat} (a : PySem.W.findIn K (.ref C) m = some (some (.ref f))) (i : PySem.W.isFn K (.ref f) = true) (l : K.lookup f = some ⟨oc, od, .func (PySem.W.fnOf m qual (defArgs st) (defBody st) (defScope st) (.ref T) kV doc pm an cdv ct), osl⟩)
    (lT : K.lookup T = some ⟨oc', od', .seq #[.int d t] n, osl'⟩)
    (c : PySem.W.codeIn K cdv qual = true) (k : PySem.W.keepIn K (.ref f) = true) (j : Nat) (hn : j + 1 = ps.length)
    (hb : ∀ (T : Addr) (kV doc pm : Value) (an : Option Addr) (cdv ct : Value) (us its : List Value), us.length = j → its.length = 1 →
      ∃ k, bindArgs (PySem.W.fnOf m qual (defArgs st) (defBody st) (defScope st) (.ref T) kV doc pm an cdv ct) ⟨us, []⟩ = seqItems? (.ref T) >>= k ∧ k (some its.toArray) = pure (ps.zip (us ++ its.drop 0))) : MAtD K C m qual st ps [.int d] := by
  have F : FunD K m qual (defArgs st) (defBody st) (defScope st) [.int d] [] f (PySem.W.fnOf m qual (defArgs st) (defBody st) (defScope st) (.ref T) kV doc pm an cdv ct) :=
    ⟨⟨oc, od, .ref T, kV, doc, pm, an, cdv, ct, osl, rfl, l, c, .inr ⟨List.cons_ne_nil _ _, T, _, [.int d t], n, rfl, lT, rfl, .cons ⟨t, rfl⟩ .nil⟩, .inl rfl⟩, k⟩
  obtain ⟨ds, v, b⟩ := F.binds1 (ps := ps) j 0 (List.cons_ne_nil _ _) hn hb
  exact ⟨f, _, ds, F, ⟨a, i, k⟩, b, v⟩
theorem smet_mk (a : PySem.W.findCls K (.ref C) (.type "type") m = some (.get (.builtin "staticmethod.__get__") (.ref p) .none (.ref C))) (r : PySem.W.recIn K p "staticmethod" = some (.ref f :: rest))
    (l : K.lookup f = some ⟨oc, od, .func (PySem.W.fnOf m qual (defArgs st) (defBody st) (defScope st) .none kV doc pm an cdv ct), osl⟩)
    (c : PySem.W.codeIn K cdv qual = true) (k : PySem.W.keepIn K (.ref f) = true)
    (hb : ∀ (kV doc pm : Value) (an : Option Addr) (cdv ct : Value) (us : List Value), us.length = ps.length → bindArgs (PySem.W.fnOf m qual (defArgs st) (defBody st) (defScope st) .none kV doc pm an cdv ct) ⟨us, []⟩ = pure (ps.zip us)) : SAt K C m qual st ps := by
  have F := fun_mk (st := st) l c k
  exact ⟨f, _, F, ⟨p, rest, a, r⟩, F.binds hb⟩
theorem int_mk {i : Int} {t : Tok} (X : K.In h) (G : h.Ns mainGlobals mg) (g : PySem.W.nsIn K mainGlobals x = some (some (.int i t))) : ∃ t, mg x = some (.int i t) := ⟨t, PySem.W.mg_of X G g⟩
theorem str_mk {z : Str} {t : Tok} (X : K.In h) (G : h.Ns mainGlobals mg) (g : PySem.W.nsIn K mainGlobals x = some (some (.str z t))) : ∃ t, mg x = some (.str z t) := ⟨t, PySem.W.mg_of X G g⟩
theorem cval_mk {i : Int} {t : Tok} (g : PySem.W.findCls K (.ref C) (.type "type") x = some (.val (.int i t))) : ∃ t, ClX.CVal K C (.type "type") x (.int i) (.int i t) := ⟨t, g, ⟨t, rfl⟩⟩
theorem tup4s_mk {a b c d : Str} {t0 t1 t2 t3 : Tok} {n : Nat} (l : K.lookup T = some ⟨.type "tuple", none, .seq #[.str a t0, .str b t1, .str c t2, .str d t3] n, osl⟩) : ∀ H, SqT K H T (([a, b, c, d]).map V.str) := fun H =>
  .inr ⟨_, _, _, l, rfl, rfl, by show 4 ≤ sizeLine; exact sz4_, .cons ⟨_, rfl⟩ (.cons ⟨_, rfl⟩ (.cons ⟨_, rfl⟩ (.cons ⟨_, rfl⟩ .nil)))⟩
theorem tup4r_mk {a b c d : Addr} {n : Nat} (l : K.lookup T = some ⟨.type "tuple", none, .seq #[.ref a, .ref b, .ref c, .ref d] n, osl⟩) : ∀ H, SqT K H T [.ref a, .ref b, .ref c, .ref d] := fun H =>
  .inr ⟨_, _, _, l, rfl, rfl, by show 4 ≤ sizeLine; exact sz4_, .cons rfl (.cons rfl (.cons rfl (.cons rfl .nil)))⟩
theorem tupk_mk {its : Array Value} {n : Nat} (l : K.lookup T = some ⟨.type "tuple", none, .seq its n, osl⟩) : ∃ o, K.lookup T = some o ∧ o.cls = .type "tuple" ∧ o.dict = none := ⟨_, l, rfl, rfl⟩
end
end DP
namespace DP
open PySem PySem.Spec PyProof.Rows L2
theorem the_law {P : Program} {w : World} {K : PySem.W.Frag} {mg : Str → Option Value} {base : Heap} {CL CS CT CR CP CW CB CE aS aR fS fT fR fP : Addr} (T : TxtW K mg CL CS CT CR CP CW aS aR fS fT fR fP) (F : PF K mg CL CS CT CR CP CW)
    (a1 : At K mg "_law_cell" s__law_cell ["script", "k"]) (a2 : At K mg "_law_draws" s__law_draws ["cell", "count"]) (a3 : At K mg "_law_stream" s__law_stream ["script", "first", "count"]) (a4 : At K mg "_law_next" s__law_next ["stream", "many"])
    (a5 : At K mg "_law_word" s__law_word ["stream", "index"]) (a6 : At K mg "_law_satellite" s__law_satellite ["stream", "index", "horizon"]) (a7 : At K mg "_law_recording" s__law_recording ["stream", "index", "satellites", "horizon"]) (a8 : At K mg "_law_pass" s__law_pass ["stream", "index", "satellites", "stations", "horizon"]) (a9 : At K mg "_law_world" s__law_world ["script"])
    (b1 : At K mg "_law_lines" s__law_lines ["world"]) (b4 : At K mg "_law_is_integer" s__law_is_integer ["actual"]) (b6 : At K mg "_law_fault" s__law_fault ["text"]) (b7 : At K mg "_law_column" s__law_column ["words", "place"]) (b9 : At K mg "_law_role" s__law_role ["words", "place"])
    (RF : MAt K CL "refuse" "Line.refuse" s_Line_refuse ["self", "reason"]) (b8 : At K mg "law" s_law ["script"]) (TF : TfAt K mg CB) (SP : SupP P) (TV : TxtV K mg CB CE) : DefOk P w K mg base CX0 11 "law" ["script"] (spLaw K) := by
  have B := T.L.B
  have D_cell : DefOk P w K mg base CX0 1 "_law_cell" _ (DP.spCell K) := d_cell B a1
  have D_stream : DefOk P w K mg base CX0 2 "_law_stream" _ (spStream K) := d_stream (d_stream0 B D_cell (d_draws B a2) a3)
  have D_next : DefOk P w K mg base CX0 1 "_law_next" _ spNext := d_next (d_next0 B a4)
  have D_word : DefOk P w K mg base CX0 2 "_law_word" _ spWord := d_word B D_next a5
  exact d_law T D_cell (d_world B D_stream D_next D_word (d_gsat B D_next D_word a6) (d_grec B D_next D_word a7) (d_gpas B D_next D_word a8) a9) (d_law_lines B b1) (d_fault3 T TF TV (prog_parseX T F TF SP RF) (d_is_integerH B b4) b6) (d_column B b7) (d_role B b9) b8
theorem hb__law_cell : ∀ (kV doc pm : Value) (an : Option Addr) (cdv ct : Value) (us : List Value), us.length = (["script", "k"] : List Str).length → bindArgs (PySem.W.fnOf "_law_cell" "_law_cell" (defArgs s__law_cell) (defBody s__law_cell) (defScope s__law_cell) .none kV doc pm an cdv ct) ⟨us, []⟩ = pure ((["script", "k"] : List Str).zip us) :=
  fun _ _ _ _ _ _ us hl => match us, hl with | [_, _], _ => rfl
theorem hb__law_draws : ∀ (kV doc pm : Value) (an : Option Addr) (cdv ct : Value) (us : List Value), us.length = (["cell", "count"] : List Str).length → bindArgs (PySem.W.fnOf "_law_draws" "_law_draws" (defArgs s__law_draws) (defBody s__law_draws) (defScope s__law_draws) .none kV doc pm an cdv ct) ⟨us, []⟩ = pure ((["cell", "count"] : List Str).zip us) :=
  fun _ _ _ _ _ _ us hl => match us, hl with | [_, _], _ => rfl
theorem hb__law_stream : ∀ (kV doc pm : Value) (an : Option Addr) (cdv ct : Value) (us : List Value), us.length = (["script", "first", "count"] : List Str).length → bindArgs (PySem.W.fnOf "_law_stream" "_law_stream" (defArgs s__law_stream) (defBody s__law_stream) (defScope s__law_stream) .none kV doc pm an cdv ct) ⟨us, []⟩ = pure ((["script", "first", "count"] : List Str).zip us) :=
  fun _ _ _ _ _ _ us hl => match us, hl with | [_, _, _], _ => rfl
theorem hb__law_next : ∀ (kV doc pm : Value) (an : Option Addr) (cdv ct : Value) (us : List Value), us.length = (["stream", "many"] : List Str).length → bindArgs (PySem.W.fnOf "_law_next" "_law_next" (defArgs s__law_next) (defBody s__law_next) (defScope s__law_next) .none kV doc pm an cdv ct) ⟨us, []⟩ = pure ((["stream", "many"] : List Str).zip us) :=
  fun _ _ _ _ _ _ us hl => match us, hl with | [_, _], _ => rfl
theorem hb__law_word : ∀ (kV doc pm : Value) (an : Option Addr) (cdv ct : Value) (us : List Value), us.length = (["stream", "index"] : List Str).length → bindArgs (PySem.W.fnOf "_law_word" "_law_word" (defArgs s__law_word) (defBody s__law_word) (defScope s__law_word) .none kV doc pm an cdv ct) ⟨us, []⟩ = pure ((["stream", "index"] : List Str).zip us) :=
  fun _ _ _ _ _ _ us hl => match us, hl with | [_, _], _ => rfl
theorem hb__law_satellite : ∀ (kV doc pm : Value) (an : Option Addr) (cdv ct : Value) (us : List Value), us.length = (["stream", "index", "horizon"] : List Str).length → bindArgs (PySem.W.fnOf "_law_satellite" "_law_satellite" (defArgs s__law_satellite) (defBody s__law_satellite) (defScope s__law_satellite) .none kV doc pm an cdv ct) ⟨us, []⟩ = pure ((["stream", "index", "horizon"] : List Str).zip us) :=
  fun _ _ _ _ _ _ us hl => match us, hl with | [_, _, _], _ => rfl
theorem hb__law_recording : ∀ (kV doc pm : Value) (an : Option Addr) (cdv ct : Value) (us : List Value), us.length = (["stream", "index", "satellites", "horizon"] : List Str).length → bindArgs (PySem.W.fnOf "_law_recording" "_law_recording" (defArgs s__law_recording) (defBody s__law_recording) (defScope s__law_recording) .none kV doc pm an cdv ct) ⟨us, []⟩ = pure ((["stream", "index", "satellites", "horizon"] : List Str).zip us) :=
  fun _ _ _ _ _ _ us hl => match us, hl with | [_, _, _, _], _ => rfl
theorem hb__law_pass : ∀ (kV doc pm : Value) (an : Option Addr) (cdv ct : Value) (us : List Value), us.length = (["stream", "index", "satellites", "stations", "horizon"] : List Str).length → bindArgs (PySem.W.fnOf "_law_pass" "_law_pass" (defArgs s__law_pass) (defBody s__law_pass) (defScope s__law_pass) .none kV doc pm an cdv ct) ⟨us, []⟩ = pure ((["stream", "index", "satellites", "stations", "horizon"] : List Str).zip us) :=
  fun _ _ _ _ _ _ us hl => match us, hl with | [_, _, _, _, _], _ => rfl
theorem hb__law_world : ∀ (kV doc pm : Value) (an : Option Addr) (cdv ct : Value) (us : List Value), us.length = (["script"] : List Str).length → bindArgs (PySem.W.fnOf "_law_world" "_law_world" (defArgs s__law_world) (defBody s__law_world) (defScope s__law_world) .none kV doc pm an cdv ct) ⟨us, []⟩ = pure ((["script"] : List Str).zip us) :=
  fun _ _ _ _ _ _ us hl => match us, hl with | [_], _ => rfl
theorem hb__law_lines : ∀ (kV doc pm : Value) (an : Option Addr) (cdv ct : Value) (us : List Value), us.length = (["world"] : List Str).length → bindArgs (PySem.W.fnOf "_law_lines" "_law_lines" (defArgs s__law_lines) (defBody s__law_lines) (defScope s__law_lines) .none kV doc pm an cdv ct) ⟨us, []⟩ = pure ((["world"] : List Str).zip us) :=
  fun _ _ _ _ _ _ us hl => match us, hl with | [_], _ => rfl
theorem hb__law_is_integer : ∀ (kV doc pm : Value) (an : Option Addr) (cdv ct : Value) (us : List Value), us.length = (["actual"] : List Str).length → bindArgs (PySem.W.fnOf "_law_is_integer" "_law_is_integer" (defArgs s__law_is_integer) (defBody s__law_is_integer) (defScope s__law_is_integer) .none kV doc pm an cdv ct) ⟨us, []⟩ = pure ((["actual"] : List Str).zip us) :=
  fun _ _ _ _ _ _ us hl => match us, hl with | [_], _ => rfl
theorem hb__law_fault : ∀ (kV doc pm : Value) (an : Option Addr) (cdv ct : Value) (us : List Value), us.length = (["text"] : List Str).length → bindArgs (PySem.W.fnOf "_law_fault" "_law_fault" (defArgs s__law_fault) (defBody s__law_fault) (defScope s__law_fault) .none kV doc pm an cdv ct) ⟨us, []⟩ = pure ((["text"] : List Str).zip us) :=
  fun _ _ _ _ _ _ us hl => match us, hl with | [_], _ => rfl
theorem hb__law_column : ∀ (kV doc pm : Value) (an : Option Addr) (cdv ct : Value) (us : List Value), us.length = (["words", "place"] : List Str).length → bindArgs (PySem.W.fnOf "_law_column" "_law_column" (defArgs s__law_column) (defBody s__law_column) (defScope s__law_column) .none kV doc pm an cdv ct) ⟨us, []⟩ = pure ((["words", "place"] : List Str).zip us) :=
  fun _ _ _ _ _ _ us hl => match us, hl with | [_, _], _ => rfl
theorem hb__law_role : ∀ (kV doc pm : Value) (an : Option Addr) (cdv ct : Value) (us : List Value), us.length = (["words", "place"] : List Str).length → bindArgs (PySem.W.fnOf "_law_role" "_law_role" (defArgs s__law_role) (defBody s__law_role) (defScope s__law_role) .none kV doc pm an cdv ct) ⟨us, []⟩ = pure ((["words", "place"] : List Str).zip us) :=
  fun _ _ _ _ _ _ us hl => match us, hl with | [_, _], _ => rfl
theorem hb_Line_refuse : ∀ (kV doc pm : Value) (an : Option Addr) (cdv ct : Value) (us : List Value), us.length = (["self", "reason"] : List Str).length → bindArgs (PySem.W.fnOf "refuse" "Line.refuse" (defArgs s_Line_refuse) (defBody s_Line_refuse) (defScope s_Line_refuse) .none kV doc pm an cdv ct) ⟨us, []⟩ = pure ((["self", "reason"] : List Str).zip us) :=
  fun _ _ _ _ _ _ us hl => match us, hl with | [_, _], _ => rfl
theorem hb_law : ∀ (kV doc pm : Value) (an : Option Addr) (cdv ct : Value) (us : List Value), us.length = (["script"] : List Str).length → bindArgs (PySem.W.fnOf "law" "law" (defArgs s_law) (defBody s_law) (defScope s_law) .none kV doc pm an cdv ct) ⟨us, []⟩ = pure ((["script"] : List Str).zip us) :=
  fun _ _ _ _ _ _ us hl => match us, hl with | [_], _ => rfl
theorem fin {l : PySem.W.OpenLaw} {w : World} {K : PySem.W.Frag} {mg : Str → Option Value} {fa CL CS CT CR CP CW aS aR fS fT fR fP CB CE : Addr} (hfa : mg "law" = some (.ref fa)) (T : TxtW K mg CL CS CT CR CP CW aS aR fS fT fR fP) (F : PF K mg CL CS CT CR CP CW)
    (a__law_cell : At K mg "_law_cell" s__law_cell ["script", "k"])
    (a__law_draws : At K mg "_law_draws" s__law_draws ["cell", "count"])
    (a__law_stream : At K mg "_law_stream" s__law_stream ["script", "first", "count"])
    (a__law_next : At K mg "_law_next" s__law_next ["stream", "many"])
    (a__law_word : At K mg "_law_word" s__law_word ["stream", "index"])
    (a__law_satellite : At K mg "_law_satellite" s__law_satellite ["stream", "index", "horizon"])
    (a__law_recording : At K mg "_law_recording" s__law_recording ["stream", "index", "satellites", "horizon"])
    (a__law_pass : At K mg "_law_pass" s__law_pass ["stream", "index", "satellites", "stations", "horizon"])
    (a__law_world : At K mg "_law_world" s__law_world ["script"])
    (a__law_lines : At K mg "_law_lines" s__law_lines ["world"])
    (a__law_is_integer : At K mg "_law_is_integer" s__law_is_integer ["actual"])
    (a__law_fault : At K mg "_law_fault" s__law_fault ["text"])
    (a__law_column : At K mg "_law_column" s__law_column ["words", "place"])
    (a__law_role : At K mg "_law_role" s__law_role ["words", "place"])
    (a_Line_refuse : MAt K CL "refuse" "Line.refuse" s_Line_refuse ["self", "reason"])
    (a_law : At K mg "law" s_law ["script"])
    (TF : TfAt K mg CB)
    (SP : SupP l.prog)
    (TV : TxtV K mg CB CE)
    : ∃ fd : FuncData, (∀ (s : Shared) (v : Value), BindsTo s fd ⟨[v], []⟩ [("script", v)]) ∧ ∀ base : Heap, K.In base → base.Ns mainGlobals mg → FnOk l.prog w K mg base CX0 11 fa fd ["script"] (spLaw K) :=
  a_law.end_ hfa (fun base => the_law T F a__law_cell a__law_draws a__law_stream a__law_next a__law_word a__law_satellite a__law_recording a__law_pass a__law_world a__law_lines a__law_is_integer a__law_fault a__law_column a__law_role a_Line_refuse a_law TF SP TV) (fun _ _ _ _ _ _ _ => rfl)
end DP
open PySem PySem.W PyProof.Rows
set_option maxHeartbeats 0 in
theorem PySem.Challenge.cw_downpass_k03_faults_of_worlds_holds : PySem.Challenge.rw_downpass_k03_faults_of_worlds.Holds := by
  w_on; o_law; k_head; (case hw => w_witness2)
  k_fill
  refine L2.walk_of (l := PySem.Challenge.rw_downpass_k03_faults_of_worlds) (n := 63) (k := 11) (x := "script") (CX := fun _ => L2.CX0) (sp := fun w => DP.spLaw _) rfl (by decide) rfl ⟨rfl, by decide, by decide⟩ (fun w h Y => PySem.W.kIn_of Y) ?F (fun _ _ a ns hl _ hS => ⟨a, ns, rfl, hS, fun _ => rfl⟩) (fun _ _ _ _ _ h => h)
  case F =>
    intro w mg fa h KX G hmg
    refine' DP.fin hmg ⟨⟨⟨?z_len, ?z_range, ?z_int, ?z_abs, ?z_isinstance, ?z_bool, ?z_str, ?z_tuple, ?z_list, ?z_min, ?z_all, ?z_enumerate⟩, ?c_Line, ?n_Line_number, ?n_Line_words, ?n_Line_read, ?n_Line_column, ?g_LETTERS, ?g_DIGITS, ?g_MOST_NAME, ?g_MOST_DIGITS⟩, ?c_Satellite, ?c_Station, ?c_Recording, ?c_Pass, ?c_World, ?n_Satellite_name, ?n_Satellite_store, ?n_Satellite_battery, ?n_Satellite_start_level, ?n_Satellite_reserve, ?n_Satellite_charge, ?n_Satellite_settle, ?n_Satellite_light, ?n_Station_name, ?n_Station_antennas, ?n_Station_turn, ?n_Recording_name, ?n_Recording_satellite, ?n_Recording_earliest, ?n_Recording_latest, ?n_Recording_length, ?n_Recording_size, ?n_Recording_energy, ?n_Recording_worth, ?n_Recording_rank, ?n_Recording_deadline, ?n_Pass_name, ?n_Pass_satellite, ?n_Pass_station, ?n_Pass_span, ?n_Pass_room, ?n_Pass_energy, ?n_Pass_fee, ?n_World_text, ?n_World_horizon, ?n_World_satellites, ?n_World_stations, ?n_World_recordings, ?n_World_passes, ?g_SATELLITES, ?g_STATIONS, ?g_RECORDINGS, ?g_PASSES, ?g_MOST_UNITS, ?g_MOST_CHARGE, ?g_MOST_DELAY, ?g_MOST_ANTENNAS, ?g_MOST_WORTH, ?g_MOST_RANK, ?g_MOST_FEE, ?g_SORTS, ?t_SORTS, ?k_SORTS, ?g_READERS, ?t_READERS, ?r_satellite, ?r_station, ?r_recording, ?r_pass, ?rdW, ?v_MOST_HORIZON, ?v_MOST_SATELLITES, ?v_MOST_STATIONS, ?v_MOST_RECORDINGS, ?v_MOST_PASSES, ?v_MOST_SHIFT⟩ ⟨?p_names_of, ?p_read_light, ?p_read_satellite, ?p_read_station, ?p_read_recording, ?p_read_pass, ?p_most_things, ?p_read_sort, ?p_read_things, ?p_lines_of, ?p_is_name, ?p_is_number, ?p_Line___init__, ?p_Line_has_more, ?p_Line_due, ?p_Line_step, ?p_Line_read_choice, ?p_Line_read_number, ?p_Line_read_field, ?p_Line_due_name, ?p_Line_read_new_name, ?p_Line_read_known_name, ?p_Line_finish, ?p_Satellite___init__, ?p_Station___init__, ?p_Recording___init__, ?p_Pass___init__, ?p_World___init__, ?p_World_parse⟩ ?a__law_cell ?a__law_draws ?a__law_stream ?a__law_next ?a__law_word ?a__law_satellite ?a__law_recording ?a__law_pass ?a__law_world ?a__law_lines ?a__law_is_integer ?a__law_fault ?a__law_column ?a__law_role ?a_Line_refuse ?a_law ?TF ?SP ?TV
    (case c_Line => (refine' DP.cls_mk KX G ?g_u17 ?pg_u17 ?hd_u17 ?po_u17 ?sa_u17 ?mk_u17 ?kp_u17; (case g_u17 => k_is); (case pg_u17 => k_is); (case hd_u17 => k_is); (case po_u17 => k_is); (case sa_u17 => k_is); (case mk_u17 => k_is); (case kp_u17 => k_is)))
    (case c_Satellite => (refine' DP.cls_mk KX G ?g_u18 ?pg_u18 ?hd_u18 ?po_u18 ?sa_u18 ?mk_u18 ?kp_u18; (case g_u18 => k_is); (case pg_u18 => k_is); (case hd_u18 => k_is); (case po_u18 => k_is); (case sa_u18 => k_is); (case mk_u18 => k_is); (case kp_u18 => k_is)))
    (case c_Station => (refine' DP.cls_mk KX G ?g_u19 ?pg_u19 ?hd_u19 ?po_u19 ?sa_u19 ?mk_u19 ?kp_u19; (case g_u19 => k_is); (case pg_u19 => k_is); (case hd_u19 => k_is); (case po_u19 => k_is); (case sa_u19 => k_is); (case mk_u19 => k_is); (case kp_u19 => k_is)))
    (case c_Recording => (refine' DP.cls_mk KX G ?g_u20 ?pg_u20 ?hd_u20 ?po_u20 ?sa_u20 ?mk_u20 ?kp_u20; (case g_u20 => k_is); (case pg_u20 => k_is); (case hd_u20 => k_is); (case po_u20 => k_is); (case sa_u20 => k_is); (case mk_u20 => k_is); (case kp_u20 => k_is)))
    (case c_Pass => (refine' DP.cls_mk KX G ?g_u21 ?pg_u21 ?hd_u21 ?po_u21 ?sa_u21 ?mk_u21 ?kp_u21; (case g_u21 => k_is); (case pg_u21 => k_is); (case hd_u21 => k_is); (case po_u21 => k_is); (case sa_u21 => k_is); (case mk_u21 => k_is); (case kp_u21 => k_is)))
    (case c_World => (refine' DP.cls_mk KX G ?g_u22 ?pg_u22 ?hd_u22 ?po_u22 ?sa_u22 ?mk_u22 ?kp_u22; (case g_u22 => k_is); (case pg_u22 => k_is); (case hd_u22 => k_is); (case po_u22 => k_is); (case sa_u22 => k_is); (case mk_u22 => k_is); (case kp_u22 => k_is)))
    (case TF => (refine' DP.tf_mk KX G ?tf1 ?tf2 ?tf3 ?tf4 ?tf5 ?tf6 ?tf7 ?tf8 ?tf9 ?tf10 ?tf11 ?tf12 ?tf13 ?tf14 ?tf15 ?tf16 ?tf17 ?tf18 ?tf19 ?tf20 ?tf21 ?tf22 ?tf23 ?tf24 ?tf25 ?tf26; (case tf1 => k_is); (case tf2 => k_is); (case tf3 => k_is); (case tf4 => k_is); (case tf5 => k_is); (case tf6 => k_is); (case tf7 => rfl); (case tf8 => k_is); (case tf9 => k_is); (case tf10 => k_is); (case tf11 => k_is); (case tf12 => k_is); (case tf13 => ks_is); (case tf14 => k_is); (case tf15 => k_is); (case tf16 => k_is); (case tf17 => rfl); (case tf18 => k_is); (case tf19 => k_is); (case tf20 => k_is); (case tf21 => k_is); (case tf22 => k_is); (case tf23 => k_is); (case tf24 => k_is); (case tf25 => first | rfl | k_is); (case tf26 => k_is)))
    (case SP => exact ⟨by first | rfl | decide +kernel, by first | rfl | decide +kernel⟩)
    (case TV => (refine' ⟨PySem.W.mg_of KX G ?tv1, ?tv2, ?tv3, ?tv4, PySem.W.mg_none_of KX G ?tv5, ?tv6, ⟨?tc1, ?tc2, ?tc3, ?tc4, ?tc5, ?tc6, ?tc7, ?tc8⟩⟩; (case tv1 => k_is); (case tv2 => k_is); (case tv3 => k_is); (case tv4 => k_is); (case tv5 => k_is); (case tv6 => k_is); (case tc1 => k_is); (case tc2 => k_is); (case tc3 => k_is); (case tc4 => k_is); (case tc5 => k_is); (case tc6 => k_is); (case tc7 => k_is); (case tc8 => k_is)))
    (case r_satellite => (refine' PySem.W.mg_of KX G ?q_u38; (case q_u38 => k_is)))
    (case r_station => (refine' PySem.W.mg_of KX G ?q_u39; (case q_u39 => k_is)))
    (case r_recording => (refine' PySem.W.mg_of KX G ?q_u40; (case q_u40 => k_is)))
    (case r_pass => (refine' PySem.W.mg_of KX G ?q_u41; (case q_u41 => k_is)))
    (case g_SORTS => (refine' PySem.W.mg_of KX G ?q_u42; (case q_u42 => k_is)))
    (case t_SORTS => (refine' DP.tup4s_mk ?q_u43; (case q_u43 => k_is)))
    (case k_SORTS => (refine' DP.tupk_mk ?q_u44; (case q_u44 => k_is)))
    (case g_READERS => (refine' PySem.W.mg_of KX G ?q_u45; (case q_u45 => k_is)))
    (case t_READERS => (refine' DP.tup4r_mk ?q_u46; (case q_u46 => k_is)))
    (case n_Line_number => (show PySem.W.findIn _ _ _ = some none; k_is))
    (case n_Line_words => (show PySem.W.findIn _ _ _ = some none; k_is))
    (case n_Line_read => (show PySem.W.findIn _ _ _ = some none; k_is))
    (case n_Line_column => (show PySem.W.findIn _ _ _ = some none; k_is))
    (case n_Satellite_name => (show PySem.W.findIn _ _ _ = some none; k_is))
    (case n_Satellite_store => (show PySem.W.findIn _ _ _ = some none; k_is))
    (case n_Satellite_battery => (show PySem.W.findIn _ _ _ = some none; k_is))
    (case n_Satellite_start_level => (show PySem.W.findIn _ _ _ = some none; k_is))
    (case n_Satellite_reserve => (show PySem.W.findIn _ _ _ = some none; k_is))
    (case n_Satellite_charge => (show PySem.W.findIn _ _ _ = some none; k_is))
    (case n_Satellite_settle => (show PySem.W.findIn _ _ _ = some none; k_is))
    (case n_Satellite_light => (show PySem.W.findIn _ _ _ = some none; k_is))
    (case n_Station_name => (show PySem.W.findIn _ _ _ = some none; k_is))
    (case n_Station_antennas => (show PySem.W.findIn _ _ _ = some none; k_is))
    (case n_Station_turn => (show PySem.W.findIn _ _ _ = some none; k_is))
    (case n_Recording_name => (show PySem.W.findIn _ _ _ = some none; k_is))
    (case n_Recording_satellite => (show PySem.W.findIn _ _ _ = some none; k_is))
    (case n_Recording_earliest => (show PySem.W.findIn _ _ _ = some none; k_is))
    (case n_Recording_latest => (show PySem.W.findIn _ _ _ = some none; k_is))
    (case n_Recording_length => (show PySem.W.findIn _ _ _ = some none; k_is))
    (case n_Recording_size => (show PySem.W.findIn _ _ _ = some none; k_is))
    (case n_Recording_energy => (show PySem.W.findIn _ _ _ = some none; k_is))
    (case n_Recording_worth => (show PySem.W.findIn _ _ _ = some none; k_is))
    (case n_Recording_rank => (show PySem.W.findIn _ _ _ = some none; k_is))
    (case n_Recording_deadline => (show PySem.W.findIn _ _ _ = some none; k_is))
    (case n_Pass_name => (show PySem.W.findIn _ _ _ = some none; k_is))
    (case n_Pass_satellite => (show PySem.W.findIn _ _ _ = some none; k_is))
    (case n_Pass_station => (show PySem.W.findIn _ _ _ = some none; k_is))
    (case n_Pass_span => (show PySem.W.findIn _ _ _ = some none; k_is))
    (case n_Pass_room => (show PySem.W.findIn _ _ _ = some none; k_is))
    (case n_Pass_energy => (show PySem.W.findIn _ _ _ = some none; k_is))
    (case n_Pass_fee => (show PySem.W.findIn _ _ _ = some none; k_is))
    (case n_World_text => (show PySem.W.findIn _ _ _ = some none; k_is))
    (case n_World_horizon => (show PySem.W.findIn _ _ _ = some none; k_is))
    (case n_World_satellites => (show PySem.W.findIn _ _ _ = some none; k_is))
    (case n_World_stations => (show PySem.W.findIn _ _ _ = some none; k_is))
    (case n_World_recordings => (show PySem.W.findIn _ _ _ = some none; k_is))
    (case n_World_passes => (show PySem.W.findIn _ _ _ = some none; k_is))
    (case z_len => (refine' PySem.W.mg_none_of KX G ?q_u1; (case q_u1 => k_is)))
    (case z_range => (refine' PySem.W.mg_none_of KX G ?q_u2; (case q_u2 => k_is)))
    (case z_int => (refine' PySem.W.mg_none_of KX G ?q_u3; (case q_u3 => k_is)))
    (case z_abs => (refine' PySem.W.mg_none_of KX G ?q_u4; (case q_u4 => k_is)))
    (case z_isinstance => (refine' PySem.W.mg_none_of KX G ?q_u5; (case q_u5 => k_is)))
    (case z_bool => (refine' PySem.W.mg_none_of KX G ?q_u6; (case q_u6 => k_is)))
    (case z_str => (refine' PySem.W.mg_none_of KX G ?q_u7; (case q_u7 => k_is)))
    (case z_tuple => (refine' PySem.W.mg_none_of KX G ?q_u8; (case q_u8 => k_is)))
    (case z_list => (refine' PySem.W.mg_none_of KX G ?q_u9; (case q_u9 => k_is)))
    (case z_min => (refine' PySem.W.mg_none_of KX G ?q_u12; (case q_u12 => k_is)))
    (case z_all => (refine' PySem.W.mg_none_of KX G ?q_u13; (case q_u13 => k_is)))
    (case z_enumerate => (refine' PySem.W.mg_none_of KX G ?q_u14; (case q_u14 => k_is)))
    (case g_LETTERS => (refine' DP.str_mk KX G ?q_u23; (case q_u23 => k_is)))
    (case g_DIGITS => (refine' DP.str_mk KX G ?q_u24; (case q_u24 => k_is)))
    (case g_MOST_NAME => (refine' DP.int_mk KX G ?q_u25; (case q_u25 => k_is)))
    (case g_MOST_DIGITS => (refine' DP.int_mk KX G ?q_u26; (case q_u26 => k_is)))
    (case g_SATELLITES => (refine' DP.int_mk KX G ?q_u27; (case q_u27 => k_is)))
    (case g_STATIONS => (refine' DP.int_mk KX G ?q_u28; (case q_u28 => k_is)))
    (case g_RECORDINGS => (refine' DP.int_mk KX G ?q_u29; (case q_u29 => k_is)))
    (case g_PASSES => (refine' DP.int_mk KX G ?q_u30; (case q_u30 => k_is)))
    (case g_MOST_UNITS => (refine' DP.int_mk KX G ?q_u31; (case q_u31 => k_is)))
    (case g_MOST_CHARGE => (refine' DP.int_mk KX G ?q_u32; (case q_u32 => k_is)))
    (case g_MOST_DELAY => (refine' DP.int_mk KX G ?q_u33; (case q_u33 => k_is)))
    (case g_MOST_ANTENNAS => (refine' DP.int_mk KX G ?q_u34; (case q_u34 => k_is)))
    (case g_MOST_WORTH => (refine' DP.int_mk KX G ?q_u35; (case q_u35 => k_is)))
    (case g_MOST_RANK => (refine' DP.int_mk KX G ?q_u36; (case q_u36 => k_is)))
    (case g_MOST_FEE => (refine' DP.int_mk KX G ?q_u37; (case q_u37 => k_is)))
    (case rdW => (refine' ⟨?rd_u47, ?ga_u47⟩; (case rd_u47 => k_is); (case ga_u47 => k_is)))
    (case v_MOST_HORIZON => (refine' DP.cval_mk ?q_u48; (case q_u48 => k_is)))
    (case v_MOST_SATELLITES => (refine' DP.cval_mk ?q_u49; (case q_u49 => k_is)))
    (case v_MOST_STATIONS => (refine' DP.cval_mk ?q_u50; (case q_u50 => k_is)))
    (case v_MOST_RECORDINGS => (refine' DP.cval_mk ?q_u51; (case q_u51 => k_is)))
    (case v_MOST_PASSES => (refine' DP.cval_mk ?q_u52; (case q_u52 => k_is)))
    (case v_MOST_SHIFT => (refine' DP.cval_mk ?q_u53; (case q_u53 => k_is)))
    (case p_names_of => (refine' DP.at_mk KX G ?a_u54 ?l_u54 ?c_u54 ?k_u54 DP.hb_names_of; (case a_u54 => k_is); (case l_u54 => k_is); (case c_u54 => k_is); (case k_u54 => k_is)))
    (case p_read_light => (refine' DP.at_mk KX G ?a_u55 ?l_u55 ?c_u55 ?k_u55 DP.hb_read_light; (case a_u55 => k_is); (case l_u55 => k_is); (case c_u55 => k_is); (case k_u55 => k_is)))
    (case p_read_satellite => (refine' DP.at_mk KX G ?a_u56 ?l_u56 ?c_u56 ?k_u56 DP.hb_read_satellite; (case a_u56 => k_is); (case l_u56 => k_is); (case c_u56 => k_is); (case k_u56 => k_is)))
    (case p_read_station => (refine' DP.at_mk KX G ?a_u57 ?l_u57 ?c_u57 ?k_u57 DP.hb_read_station; (case a_u57 => k_is); (case l_u57 => k_is); (case c_u57 => k_is); (case k_u57 => k_is)))
    (case p_read_recording => (refine' DP.at_mk KX G ?a_u58 ?l_u58 ?c_u58 ?k_u58 DP.hb_read_recording; (case a_u58 => k_is); (case l_u58 => k_is); (case c_u58 => k_is); (case k_u58 => k_is)))
    (case p_read_pass => (refine' DP.at_mk KX G ?a_u59 ?l_u59 ?c_u59 ?k_u59 DP.hb_read_pass; (case a_u59 => k_is); (case l_u59 => k_is); (case c_u59 => k_is); (case k_u59 => k_is)))
    (case p_most_things => (refine' DP.at_mk KX G ?a_u60 ?l_u60 ?c_u60 ?k_u60 DP.hb_most_things; (case a_u60 => k_is); (case l_u60 => k_is); (case c_u60 => k_is); (case k_u60 => k_is)))
    (case p_read_sort => (refine' DP.at_mk KX G ?a_u61 ?l_u61 ?c_u61 ?k_u61 DP.hb_read_sort; (case a_u61 => k_is); (case l_u61 => k_is); (case c_u61 => k_is); (case k_u61 => k_is)))
    (case p_read_things => (refine' DP.at_mk KX G ?a_u62 ?l_u62 ?c_u62 ?k_u62 DP.hb_read_things; (case a_u62 => k_is); (case l_u62 => k_is); (case c_u62 => k_is); (case k_u62 => k_is)))
    (case p_lines_of => (refine' DP.at_mk KX G ?a_u63 ?l_u63 ?c_u63 ?k_u63 DP.hb_lines_of; (case a_u63 => k_is); (case l_u63 => k_is); (case c_u63 => k_is); (case k_u63 => k_is)))
    (case p_is_name => (refine' DP.at_mk KX G ?a_u64 ?l_u64 ?c_u64 ?k_u64 DP.hb_is_name; (case a_u64 => k_is); (case l_u64 => k_is); (case c_u64 => k_is); (case k_u64 => k_is)))
    (case p_is_number => (refine' DP.at_mk KX G ?a_u65 ?l_u65 ?c_u65 ?k_u65 DP.hb_is_number; (case a_u65 => k_is); (case l_u65 => k_is); (case c_u65 => k_is); (case k_u65 => k_is)))
    (case p_Line___init__ => (refine' DP.met_mk ?a_u66 ?i_u66 ?l_u66 ?c_u66 ?k_u66 DP.hb_Line___init__; (case a_u66 => k_is); (case i_u66 => k_is); (case l_u66 => k_is); (case c_u66 => k_is); (case k_u66 => k_is)))
    (case p_Line_has_more => (refine' DP.met_mk ?a_u67 ?i_u67 ?l_u67 ?c_u67 ?k_u67 DP.hb_Line_has_more; (case a_u67 => k_is); (case i_u67 => k_is); (case l_u67 => k_is); (case c_u67 => k_is); (case k_u67 => k_is)))
    (case p_Line_due => (refine' DP.met_mk ?a_u68 ?i_u68 ?l_u68 ?c_u68 ?k_u68 DP.hb_Line_due; (case a_u68 => k_is); (case i_u68 => k_is); (case l_u68 => k_is); (case c_u68 => k_is); (case k_u68 => k_is)))
    (case p_Line_step => (refine' DP.met_mk ?a_u69 ?i_u69 ?l_u69 ?c_u69 ?k_u69 DP.hb_Line_step; (case a_u69 => k_is); (case i_u69 => k_is); (case l_u69 => k_is); (case c_u69 => k_is); (case k_u69 => k_is)))
    (case p_Line_read_choice => (refine' DP.met_mk ?a_u70 ?i_u70 ?l_u70 ?c_u70 ?k_u70 DP.hb_Line_read_choice; (case a_u70 => k_is); (case i_u70 => k_is); (case l_u70 => k_is); (case c_u70 => k_is); (case k_u70 => k_is)))
    (case p_Line_read_number => (refine' DP.met_mk ?a_u71 ?i_u71 ?l_u71 ?c_u71 ?k_u71 DP.hb_Line_read_number; (case a_u71 => k_is); (case i_u71 => k_is); (case l_u71 => k_is); (case c_u71 => k_is); (case k_u71 => k_is)))
    (case p_Line_read_field => (refine' DP.met_mk ?a_u72 ?i_u72 ?l_u72 ?c_u72 ?k_u72 DP.hb_Line_read_field; (case a_u72 => k_is); (case i_u72 => k_is); (case l_u72 => k_is); (case c_u72 => k_is); (case k_u72 => k_is)))
    (case p_Line_due_name => (refine' DP.met_mk ?a_u73 ?i_u73 ?l_u73 ?c_u73 ?k_u73 DP.hb_Line_due_name; (case a_u73 => k_is); (case i_u73 => k_is); (case l_u73 => k_is); (case c_u73 => k_is); (case k_u73 => k_is)))
    (case p_Line_read_new_name => (refine' DP.met_mk ?a_u74 ?i_u74 ?l_u74 ?c_u74 ?k_u74 DP.hb_Line_read_new_name; (case a_u74 => k_is); (case i_u74 => k_is); (case l_u74 => k_is); (case c_u74 => k_is); (case k_u74 => k_is)))
    (case p_Line_read_known_name => (refine' DP.metD_mk ?a_u75 ?i_u75 ?l_u75 ?lT_u75 ?c_u75 ?k_u75 2 rfl DP.hb_Line_read_known_name; (case a_u75 => k_is); (case i_u75 => k_is); (case l_u75 => k_is); (case lT_u75 => k_is); (case c_u75 => k_is); (case k_u75 => k_is)))
    (case p_Line_finish => (refine' DP.met_mk ?a_u76 ?i_u76 ?l_u76 ?c_u76 ?k_u76 DP.hb_Line_finish; (case a_u76 => k_is); (case i_u76 => k_is); (case l_u76 => k_is); (case c_u76 => k_is); (case k_u76 => k_is)))
    (case p_Satellite___init__ => (refine' DP.met_mk ?a_u77 ?i_u77 ?l_u77 ?c_u77 ?k_u77 DP.hb_Satellite___init__; (case a_u77 => k_is); (case i_u77 => k_is); (case l_u77 => k_is); (case c_u77 => k_is); (case k_u77 => k_is)))
    (case p_Station___init__ => (refine' DP.met_mk ?a_u78 ?i_u78 ?l_u78 ?c_u78 ?k_u78 DP.hb_Station___init__; (case a_u78 => k_is); (case i_u78 => k_is); (case l_u78 => k_is); (case c_u78 => k_is); (case k_u78 => k_is)))
    (case p_Recording___init__ => (refine' DP.met_mk ?a_u79 ?i_u79 ?l_u79 ?c_u79 ?k_u79 DP.hb_Recording___init__; (case a_u79 => k_is); (case i_u79 => k_is); (case l_u79 => k_is); (case c_u79 => k_is); (case k_u79 => k_is)))
    (case p_Pass___init__ => (refine' DP.met_mk ?a_u80 ?i_u80 ?l_u80 ?c_u80 ?k_u80 DP.hb_Pass___init__; (case a_u80 => k_is); (case i_u80 => k_is); (case l_u80 => k_is); (case c_u80 => k_is); (case k_u80 => k_is)))
    (case p_World___init__ => (refine' DP.met_mk ?a_u81 ?i_u81 ?l_u81 ?c_u81 ?k_u81 DP.hb_World___init__; (case a_u81 => k_is); (case i_u81 => k_is); (case l_u81 => k_is); (case c_u81 => k_is); (case k_u81 => k_is)))
    (case p_World_parse => (refine' DP.smet_mk ?a_u82 ?r_u82 ?l_u82 ?c_u82 ?k_u82 DP.hb_World_parse; (case a_u82 => k_is); (case r_u82 => k_is); (case l_u82 => k_is); (case c_u82 => k_is); (case k_u82 => k_is)))
    (case a__law_cell => (refine' DP.at_mk KX G ?a_u83 ?l_u83 ?c_u83 ?k_u83 DP.hb__law_cell; (case a_u83 => k_is); (case l_u83 => k_is); (case c_u83 => k_is); (case k_u83 => k_is)))
    (case a__law_draws => (refine' DP.at_mk KX G ?a_u84 ?l_u84 ?c_u84 ?k_u84 DP.hb__law_draws; (case a_u84 => k_is); (case l_u84 => k_is); (case c_u84 => k_is); (case k_u84 => k_is)))
    (case a__law_stream => (refine' DP.at_mk KX G ?a_u85 ?l_u85 ?c_u85 ?k_u85 DP.hb__law_stream; (case a_u85 => k_is); (case l_u85 => k_is); (case c_u85 => k_is); (case k_u85 => k_is)))
    (case a__law_next => (refine' DP.at_mk KX G ?a_u86 ?l_u86 ?c_u86 ?k_u86 DP.hb__law_next; (case a_u86 => k_is); (case l_u86 => k_is); (case c_u86 => k_is); (case k_u86 => k_is)))
    (case a__law_word => (refine' DP.at_mk KX G ?a_u87 ?l_u87 ?c_u87 ?k_u87 DP.hb__law_word; (case a_u87 => k_is); (case l_u87 => k_is); (case c_u87 => k_is); (case k_u87 => k_is)))
    (case a__law_satellite => (refine' DP.at_mk KX G ?a_u88 ?l_u88 ?c_u88 ?k_u88 DP.hb__law_satellite; (case a_u88 => k_is); (case l_u88 => k_is); (case c_u88 => k_is); (case k_u88 => k_is)))
    (case a__law_recording => (refine' DP.at_mk KX G ?a_u89 ?l_u89 ?c_u89 ?k_u89 DP.hb__law_recording; (case a_u89 => k_is); (case l_u89 => k_is); (case c_u89 => k_is); (case k_u89 => k_is)))
    (case a__law_pass => (refine' DP.at_mk KX G ?a_u90 ?l_u90 ?c_u90 ?k_u90 DP.hb__law_pass; (case a_u90 => k_is); (case l_u90 => k_is); (case c_u90 => k_is); (case k_u90 => k_is)))
    (case a__law_world => (refine' DP.at_mk KX G ?a_u91 ?l_u91 ?c_u91 ?k_u91 DP.hb__law_world; (case a_u91 => k_is); (case l_u91 => k_is); (case c_u91 => k_is); (case k_u91 => k_is)))
    (case a__law_lines => (refine' DP.at_mk KX G ?a_u92 ?l_u92 ?c_u92 ?k_u92 DP.hb__law_lines; (case a_u92 => k_is); (case l_u92 => k_is); (case c_u92 => k_is); (case k_u92 => k_is)))
    (case a__law_is_integer => (refine' DP.at_mk KX G ?a_u93 ?l_u93 ?c_u93 ?k_u93 DP.hb__law_is_integer; (case a_u93 => k_is); (case l_u93 => k_is); (case c_u93 => k_is); (case k_u93 => k_is)))
    (case a__law_fault => (refine' DP.at_mk KX G ?a_u94 ?l_u94 ?c_u94 ?k_u94 DP.hb__law_fault; (case a_u94 => k_is); (case l_u94 => k_is); (case c_u94 => k_is); (case k_u94 => k_is)))
    (case a__law_column => (refine' DP.at_mk KX G ?a_u95 ?l_u95 ?c_u95 ?k_u95 DP.hb__law_column; (case a_u95 => k_is); (case l_u95 => k_is); (case c_u95 => k_is); (case k_u95 => k_is)))
    (case a__law_role => (refine' DP.at_mk KX G ?a_u96 ?l_u96 ?c_u96 ?k_u96 DP.hb__law_role; (case a_u96 => k_is); (case l_u96 => k_is); (case c_u96 => k_is); (case k_u96 => k_is)))
    (case a_Line_refuse => (refine' DP.met_mk ?a_u97 ?i_u97 ?l_u97 ?c_u97 ?k_u97 DP.hb_Line_refuse; (case a_u97 => k_is); (case i_u97 => k_is); (case l_u97 => k_is); (case c_u97 => k_is); (case k_u97 => k_is)))
    (case a_law => (refine' DP.at_mk KX G ?a_u98 ?l_u98 ?c_u98 ?k_u98 DP.hb_law; (case a_u98 => k_is); (case l_u98 => k_is); (case c_u98 => k_is); (case k_u98 => k_is)))
