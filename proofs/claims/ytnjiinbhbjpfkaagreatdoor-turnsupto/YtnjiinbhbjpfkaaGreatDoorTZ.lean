import Derived.Test.YtnjiinbhbjpfkaaGreatDoorTX
import Derived.Test.YtnjiinbhbjpfkaaGreatDoorTR
import Derived.Test.YtnjiinbhbjpfkaaGreatDoorTT
set_option maxRecDepth 100000
set_option maxHeartbeats 0
set_option linter.all false
namespace Go.Proofs.YtnjiinbhbjpfkaaGreatDoor
open Go.RowKit Go.Proofs.Tryz
namespace F
abbrev vF:=Nat×Nat×Nat×Nat
def FY(s:Pl)(x y:B.V):Prop:=x.1≠0/\s.ck x.1=0/\y.1=0/\0<=y.2/\y.2<((s.M x.1).length:Int)
def ot(s:Pl)(x y:B.V):Nat:=if x.1=0\/s.ck x.1≠0 then 2 else if y.1≠0 then 1 else 3
def mM(p:dL)(s:Pl)(t a ty:Nat)(l:List B.V)(s':Pl):Prop:=
 (∃(c:Nat) (kd1:B.Kd),1<=c/\c<=p.n/\kd1.on c=false/\B.lS kd1 p.n (eG p s) s.M/\IP (eG p s).length p.n (B.oi (eG p s) s.M) s.kd kd1/\s'=(s.oS kd1 c ty l).dJ t (de s t) ((bw s t).set a (c,0))) \/
 ((∀c,1<=c->c<=p.n->B.nK (eG p s) s.M c)/\∃kd1,B.lS kd1 p.n (eG p s) s.M/\s'=(s.vk kd1).mf t)
def xT(s:Pl)(t o a b c:Nat)(why:Int)(s':Pl):Prop:=
 (F7 s t b c/\why=0/\s'=qv s t a (arith o ((bw s t).R b).2 ((bw s t).R c).2))\/(¬F7 s t b c/\why=1/\s'=s)
def kM(p:dL)(s:Pl)(t:Nat)(k:vF)(why:Int)(s':Pl):Prop:=
 match k.1 with
 | 0=>why=0/\s'=qv s t k.2.1 (B.wide k.2.2.1 k.2.2.2)
 | 1=>why=0/\s'=s.dJ t (de s t) ((bw s t).set k.2.1 ((bw s t).R k.2.2.1))
 | 2=>xT s t 2 k.2.1 k.2.2.1 k.2.2.2 why s'
 | 3=>xT s t 3 k.2.1 k.2.2.1 k.2.2.2 why s'
 | 4=>xT s t 4 k.2.1 k.2.2.1 k.2.2.2 why s'
 | 5=>xT s t 5 k.2.1 k.2.2.1 k.2.2.2 why s'
 | 6=>why=0/\s'=qv s t k.2.1 (if(bw s t).R k.2.2.1=(bw s t).R k.2.2.2 then 1 else 0)
 | 7=>why=0/\s'=s.dJ t (de s t) { bw s t with nx:=256*k.2.2.1+k.2.2.2 }
 | 8=>why=0/\s'=s.dJ t (de s t) { bw s t with nx:=if(bw s t).R k.2.1=(0,0) then 256*k.2.2.1+k.2.2.2 else(bw s t).nx }
 | 9=>why=0/\mM p s t k.2.1 0 (List.replicate k.2.2.1 (0,0)) s'
 | 10=>(FY s ((bw s t).R k.2.2.1) ((bw s t).R k.2.2.2)/\why=0/\s'=s.dJ t (de s t) ((bw s t).set k.2.1 ((s.M ((bw s t).R k.2.2.1).1).getD ((bw s t).R k.2.2.2).2.toNat (0,0))))\/(¬FY s ((bw s t).R k.2.2.1) ((bw s t).R k.2.2.2)/\why=(ot s ((bw s t).R k.2.2.1) ((bw s t).R k.2.2.2):Nat)/\s'=s)
 | 11=>(FY s ((bw s t).R k.2.1) ((bw s t).R k.2.2.1)/\why=0/\s'=s.ur ((bw s t).R k.2.1).1 ((bw s t).R k.2.2.1).2.toNat ((bw s t).R k.2.2.2))\/(¬FY s ((bw s t).R k.2.1) ((bw s t).R k.2.2.1)/\why=(ot s ((bw s t).R k.2.1) ((bw s t).R k.2.2.1):Nat)/\s'=s)
 | 12=>why=0/\mM p s t k.2.1 (k.2.2.1+1) [(bw s t).R k.2.2.2] s'
 | 13=>why=ry (fz s ((bw s t).R k.2.2.1)).2.2 (s.T t).fr.length/\s'=mS s t k
 | 14=>why=0/\s'=s.back t ((bw s t).R k.2.1)
 | 15=>why=kG (fz s ((bw s t).R k.2.2.1)).2.2 s.lv.length p.mt/\s'=lV p s t k
 | 16=>why=0/\s'=s.dY 2 0 t
 | 17=>why=(jl s t k.2.1).1/\s'=(jl s t k.2.1).2
 | 18=>why=(jb s t k).1/\s'=(jb s t k).2
 | 19=>why=(iz s t k.2.1).1/\s'=(iz s t k.2.1).2
 | 20=>why=(jU s t k.2.1).1/\s'=(jU s t k.2.1).2
 | 21=>why=(kJ s t k).1/\s'=(kJ s t k).2
 | 22=>why=0/\s'=qv s t k.2.1 s.clk
 | _=>False
def Kt(p:dL)(f:Nat)(k:vF):Prop:=
 k.1<23/\k.2.1<256/\k.2.2.1<256/\k.2.2.2<256/\(k.1≠7->k.1≠16->k.2.1<p.rg f)/\(k.1=1\/(2<=k.1/\k.1<=6)\/k.1=10\/k.1=11\/k.1=13\/k.1=15\/k.1=18\/k.1=21->k.2.2.1<p.rg f) /\
 ((2<=k.1/\k.1<=6)\/k.1=10\/k.1=11\/k.1=12\/k.1=13\/k.1=15->k.2.2.2<p.rg f)/\(k.1=7\/k.1=8->256*k.2.2.1+k.2.2.2<=p.len f)/\(k.1=9->k.2.2.1<=8)/\(k.1=12->k.2.2.1<p.nf)
structure Rn(p:dL) (s:Pl) (t:Nat):Prop where
 ok:Ok p s
 lv:t∈s.lv
 run:(s.T t).run=true
section
variable {p:dL}{s:Pl}{t:Nat} (h:Rn p s t)
include h
def Rn.ht:fm s t:=h.ok.lt t h.lv
theorem Rn.wh:(s.T t).wh=none:=(h.ok.rn t h.ht h.run).1
theorem Rn.fw:FW p (s.T t).fr:=h.ok.fw t h.lv trivial
theorem Rn.hi:de s t<(s.T t).fr.length:=by
 have:(s.T t).fr.length≠0:=λe=>h.fw.n1 (db.1 e);grind[de]
theorem Rn.lf:(s.T t).lf=none:=by
 cases hl:(s.T t).lf with
 | none=>rfl
 | some k=>
  obtain⟨x,y,e,_⟩:=h.ok.lf t h.ht eR;rw[h.wh]at e;cases e
def Rn.iC:In s t:=⟨h.ht,h.hi⟩
theorem Rn.nM{a:Nat}(e:a<p.rg (bw s t).f):dW p s ((bw s t).R a):=dW.root (af ⟨t,de s t,a,h.lv,h.hi,e,rfl⟩)
theorem Rn.ff:(bw s t).f<p.nf/\(bw s t).nx<=p.len (bw s t).f:=h.fw.f _ h.hi
theorem Rn.oK(a:Nat){v:B.V}(e:dW p s v):Ok p (s.dJ t (de s t) ((bw s t).set a v)):=h.ok.oK h.lv trivial h.hi a e
end
variable {k:vF}{l:List Nat}{p:dL}{s s':Pl}{t:Nat}
def uJ{a:Nat}(e:B.nK (eG p s) s.M a)(i:Nat):dW p s ((s.M a).getD i (0,0)):=by
 by_cases hi:i<(s.M a).length
 .refine ah (ah ⟨a,e,?_⟩);grind
 grind[List.getElem?_eq_none,dW.num]
def pP{X:Nat->Prop}(h:fL p s X){x:B.V}(hx:dW p s x)(i:(fz s x).2.2=true):(fz s x).1<p.nf/\dW p s (fz s x).2.1:=by
 by_cases e:x.1=0\/s.ck x.1=0
 .unfold fz at i;grind
 have o:=h.AF hx;have y:x.1≠0:=λu=>e (af u);have Y:s.ck x.1≠0:=λu=>e (ah u);rcases o with o|⟨G,J,H,_⟩
 .omega
 have W:=h.fc x.1 G J H;unfold fz;rw[au e];exact⟨ag,uJ (B.pR.vO hx y) 0⟩
def IP.dn{e:B.Kd}(h:IP (eG p s).length p.n (B.oi (eG p s) s.M) s.kd e)(k:Nat)(k1:1<=k)(k2:k<=p.n)(i:e.on k=true):s.kd.on k=true:=by
 rcases h with h|h
 .grind
 grind
def Bc{a ty:Nat}{l:List B.V}(h:Rn p s t)(o:ty<=p.nf)(Y:∀v,v∈l->dW p s v)(W:mM p s t a ty l s'):Ok p s'/\Go t 1 s s':=by
 rcases W with⟨c,e,i,u,J,H,G,rfl⟩|⟨i,e,u,rfl⟩
 .exact⟨h.ok.oS h.lv H G.dn i u J o Y,(Go.same rfl rfl rfl rfl).mono ag⟩
 have y:Ok p (s.vk e):=h.ok.vk u (λk k1 k2 _=>(B.qS h.ok.hl (i k k1 k2)).1);exact⟨y.mf h.lv,Go.Io (ah rfl) h.lv rfl rfl rfl rfl⟩
theorem xf{a:Nat}(h:Rn p s t)(x:Int):Ok p (qv s t a x)/\Go t 1 s (qv s t a x):=⟨h.oK a (dW.num x),(Go.same rfl rfl rfl rfl).mono ag⟩
theorem fL.fK{p:dL}{s:Pl}{X:Nat->Prop}(h:fL p s X){t:Nat}(i:t∈s.lv)(u:Int):fL p (s.fK t u) X:=by
 have ht:=h.lt t i;have hw:=λa=>mF s t u a;refine h.line i rfl (h.lw.fK t u) (λu e=>dR _ _ e) (hw t).2.2.1 (λ_ _ _ _ h=>af h) ⟨rfl,rfl,rfl,rfl,rfl,rfl,rfl,rfl⟩ (λx y H o=>?_) (λJ=>?_) (λG=>?_)
 .rw[(hw t).1]at H;obtain⟨k,k1,k2,W⟩:=h.ww t ht x y H o;grind
 .grind[F.fL.lf]
 grind[F.fL.rn]
def Cp(k:Nat)(h:l.Nodup)(ht:t∉l):(l.take k++t :: l.drop k).Nodup:=by
 grind[List.perm_middle,List.take_append_drop,List.nodup_cons]
def GR(k a:Nat):a∈l.take k++t :: l.drop k↔(a∈l\/a=t):=by
 have e:(l.take k++t :: l.drop k).Perm (t :: l):=by
  have:=List.perm_middle (a:=t) (l₁:=l.take k) (l₂:=l.drop k);rw[List.take_append_drop]at this;exact this
 grind
theorem DQ(h:Rn p s t)(u:Int):Ok p (s.iq t u)/\Go t 1 s (s.iq t u):=by
 have G:Ok p (s.fK t u):=h.ok.fK h.lv u;have i:((s.fK t u).T t).wh=none:=by rw[(mF s t u t).1];exact h.wh
 have y:fN (s.fK t u) 3 0:=ah (af ⟨rfl,rfl⟩);have o:t∉s.q 3 0:=G.lw.out y eR;refine⟨G.into h.lv y (ah rfl) (Cp _ (h.ok.lw.c 3 0 y) o) (λa=>?_),(Go.same ?_ ?_ ?_ ?_).mono ag⟩
 .rw[fB i];exact GR _ a
 .show((s.fK t u).dz t).ev=_;rw[fB i];rfl
 .show((s.fK t u).dz t).lv=_;rw[fB i];rfl
 .show((s.fK t u).dz t).nt=_;rw[fB i];rfl
 show(((s.fK t u).dz t).fF 3 0 ((s.q 3 0).take (Cn (s.fK t u) u)++t :: (s.q 3 0).drop (Cn (s.fK t u) u))).q 2 0=_;rw[fY _ _ ag,fB i];rfl
def AE{x y:Nat}(hw:(s.T t).wh=none)(hx:x=4\/x=5):Go t 1 s (s.wait x y t k):=by
 obtain⟨k1,_,_,_,_,_,_,_,i,_⟩:=jg s x y t;refine(Go.same i k1 (iF s x y t) ?_).mono ag;grind[EK]
theorem Hw(h:Rn p s t)(u:k.2.1<p.rg (bw s t).f)(G:k.2.2.1<p.rg (bw s t).f)(y:k.2.2.2<p.rg (bw s t).f):Ok p (mS s t k)/\Go t 1 s (mS s t k):=by
 unfold mS;split
 .rename_i e;obtain⟨i,o⟩:=pP h.ok (h.nM G) e.1;exact⟨h.ok.push h.wh (gp h.fw.n2) (ah h.fw) i (dk _) (λ_=>u) (λa _=>qQ (h.nM y) o a) (λ_ _ _=>trivial),(Go.same rfl rfl rfl rfl).mono ag⟩
 exact⟨h.ok,(Go.same rfl rfl rfl rfl).mono ag⟩
theorem DO(h:Rn p s t)(hn:s.nt+1<=500000000)(hb:k.2.2.1<p.rg (bw s t).f)(J:k.2.2.2<p.rg (bw s t).f):Ok p (lV p s t k)/\Go t 1 s (lV p s t k):=by
 unfold lV;split
 .rename_i Y;obtain⟨Z,f2⟩:=pP h.ok (h.nM hb) Y.1;have y:=qz s (fz s ((bw s t).R k.2.2.1)).1 ((bw s t).R k.2.2.2) (fz s ((bw s t).R k.2.2.1)).2.1 h.ht;obtain⟨u,G,_,_⟩:=tQ s (fz s ((bw s t).R k.2.2.1)).1 ((bw s t).R k.2.2.2) (fz s ((bw s t).R k.2.2.1)).2.1;have o:dq (s.born (fz s ((bw s t).R k.2.2.1)).1 ((bw s t).R k.2.2.2) (fz s ((bw s t).R k.2.2.1)).2.1) t (de s t)=bw s t:=gD (by rw[y]);have W:(s.born (fz s ((bw s t).R k.2.2.1)).1 ((bw s t).R k.2.2.2) (fz s ((bw s t).R k.2.2.1)).2.1).q 2 0=s.q 2 0++[s.nt+1]:=by
   have:=nW (s:=s.more.push (s.nt+1) ⟨(fz s ((bw s t).R k.2.2.1)).1,0,ig ((bw s t).R k.2.2.2) (fz s ((bw s t).R k.2.2.1)).2.1,(0,0,0,0)⟩) (t:=s.nt+1) (by
    rw[(qT _ _ _ _).1];have:s.more.T (s.nt+1)=rZ:=mL s;rw[this];intro e;cases e)
   refine this.trans ?_;have:s.more.q 2 0=s.q 2 0:=qZ s (a:=2) (b:=0) (λe=>by omega);show s.more.q 2 0++_=_;rw[this]
  refine⟨?_,Go.born G u (ny s _ _ _) ⟨_,W⟩⟩;have:=(h.ok.born hn Z (h.nM J) f2).oK (t:=t) (i:=de s t) (by rw[u];exact eM _ h.lv) trivial (eV y h.hi) k.2.1 (v:=(0,((s.nt+1:Nat):Int))) (dW.num _);grind
 exact⟨h.ok,(Go.same rfl rfl rfl rfl).mono ag⟩
theorem FE(h:Rn p s t)(y:k.2.1<p.rg (bw s t).f):Ok p (jb s t k).2/\Go t 1 s (jb s t k).2:=by
 have o:Ok p s/\Go t 1 s s:=⟨h.ok,(Go.same rfl rfl rfl rfl).mono ag⟩;unfold jb;split
 .split
  .rename_i J;show Ok p (match gW s ((bw s t).R k.2.2.1).2 with|some u=>s.wait 5 u t k|none=>_)/\Go t 1 s (match gW s ((bw s t).R k.2.2.1).2 with|some u=>s.wait 5 u t k|none=>_)
   cases hf:gW s ((bw s t).R k.2.2.1).2 with
   | some u=>
    obtain⟨G,H⟩:=jM hf;exact⟨h.ok.wait h.lv trivial (ah (ah (ah ⟨rfl,h.ok.lt u G⟩))) (ah rfl) (λe=>J.2 ag) y,AE h.wh (ah rfl)⟩
   | none=>
    refine⟨h.oK k.2.1 ?_,(Go.same rfl rfl rfl rfl).mono ag⟩;generalize W:((bw s t).R k.2.2.1).2.toNat-1=j;by_cases i:j<s.out.length
    .rw[cr,bz i];exact(h.ok.ok _ (List.getElem_mem i)).elim (λe=>af e) (λe=>dW.root (ah e))
    grind[List.getElem?_eq_none,dW.num]
  exact o
 exact o
theorem CY{a:Nat}(h:Rn p s t):Ok p (iz s t a).2/\Go t 1 s (iz s t a).2:=by
 have o:Ok p s/\Go t 1 s s:=⟨h.ok,(Go.same rfl rfl rfl rfl).mono ag⟩;unfold iz;split
 .split
  .show Ok p (match gW s ((bw s t).R a).2 with|some u=>s.leave u (0,-100) 4 0|none=>s)/\Go t 1 s (match gW s ((bw s t).R a).2 with|some u=>s.leave u (0,-100) 4 0|none=>s)
   cases hf:gW s ((bw s t).R a).2 with
   | some u=>
    obtain⟨i,G⟩:=jM hf;obtain⟨k1,k2,y⟩:=uF s u (0,-100) 4 0;exact⟨h.ok.leave i (λ_ _=>trivial) (dW.num _) 4 0,Go.ends (ah (ah rfl)) i (h.ok.lt u i) h.ok.nd k2 k1 y (λe=>dp rfl e)⟩
   | none=>exact o
  exact o
 exact o
theorem GD(h:Rn p s t)(H:k.2.1<p.rg (bw s t).f):Ok p (kJ s t k).2/\Go t 1 s (kJ s t k).2:=by
 have o:Ok p s/\Go t 1 s s:=⟨h.ok,(Go.same rfl rfl rfl rfl).mono ag⟩;unfold kJ;split
 .split
  .rename_i J;generalize hz:((bw s t).R k.2.2.1).2.toNat=z
   show Ok p (match s.ft z with|x :: bs=>(s.fO z bs).dJ t (de s t) ((bw s t).set k.2.1 (0,(x:Int)))|[]=>s.wait 4 z t k)/\Go t 1 s (match s.ft z with|x :: bs=>(s.fO z bs).dJ t (de s t) ((bw s t).set k.2.1 (0,(x:Int)))|[]=>s.wait 4 z t k)
   cases hb:s.ft z with
   | nil=>exact⟨h.ok.wait h.lv trivial (ah (ah (af ⟨rfl,ag⟩))) (af rfl) ag H,AE h.wh (af rfl)⟩
   | cons x bs=>
    have e:=h.ok.bt z;rw[hb]at e;exact⟨fL.oK (s:=s.fO z bs) (h.ok.fO z bs ⟨eR,λy u=>e.2 y (by simp[u])⟩) h.lv trivial h.hi k.2.1 (dW.num _),(Go.same rfl rfl rfl rfl).mono ag⟩
  exact o
 exact o
def Bk{why:Int}(h:Rn p s t)(hn:s.nt+1<=500000000)(hk:Kt p (bw s t).f k)(hi:kM p s t k why s'):Ok p s'/\Go t 1 s s':=by
 obtain⟨i,a,b,c⟩:=k;obtain⟨k0,k1,k2,k3,y,G,J,Y,k8,k9⟩:=hk;simp only at k0 k1 k2 k3 y G J Y k8 k9;have H:Ok p s/\Go t 1 s s:=⟨h.ok,(Go.same rfl rfl rfl rfl).mono ag⟩;have u:∀o,xT s t o a b c why s'->Ok p s'/\Go t 1 s s':=λo ht=>by
  rcases ht with⟨_,_,rfl⟩|⟨_,_,rfl⟩
  .grind[xf]
  exact H
 have hc:=oU 22 i ag;repeat' rcases hc with rfl|hc
 .obtain⟨_,rfl⟩:=hi;grind[xf]
 .obtain⟨_,rfl⟩:=hi;exact⟨h.oK a (h.nM (G ag)),(Go.same rfl rfl rfl rfl).mono ag⟩
 .exact u 2 hi
 .exact u 3 hi
 .exact u 4 hi
 .exact u 5 hi
 .obtain⟨_,rfl⟩:=hi;grind[xf]
 .obtain⟨_,rfl⟩:=hi;exact⟨h.ok.dJ h.hi rfl rfl (Y ag) (λe he=>h.nM he),(Go.same rfl rfl rfl rfl).mono ag⟩
 .obtain⟨_,rfl⟩:=hi;refine⟨h.ok.dJ h.hi rfl rfl ?_ (λe he=>h.nM he),(Go.same rfl rfl rfl rfl).mono ag⟩;show(if _ then _ else _)<=p.len (bw s t).f;split
  .grind
  exact h.ff.2
 .exact Bc h (dk _) (λv W=>by grind[dW.num]) hi.2
 .rcases hi with⟨Z,_,rfl⟩|⟨_,_,rfl⟩
  .exact⟨h.oK a (uJ (B.pR.vO (h.nM (G ag)) Z.1) _),(Go.same rfl rfl rfl rfl).mono ag⟩
  exact H
 .rcases hi with⟨Z,_,rfl⟩|⟨_,_,rfl⟩
  .exact⟨h.ok.ur (B.pR.vO (h.nM (y ag ag)) Z.1) (h.nM (J ag)),(Go.same rfl rfl rfl rfl).mono ag⟩
  exact H
 .exact Bc h (k9 rfl) (λv W=>by grind[F.Rn.nM]) hi.2
 .obtain⟨_,rfl⟩:=hi;grind[Hw]
 .obtain⟨_,rfl⟩:=hi;grind[Go.back,F.fL.back,F.Rn.ok,F.Rn.lv,F.Rn.wh,F.Rn.nM]
 .obtain⟨_,rfl⟩:=hi;grind[DO]
 .obtain⟨_,rfl⟩:=hi;obtain⟨j1,_,_,_,_,_,_,_,j9,_⟩:=jg s 2 0 t;exact⟨h.ok.dY h.lv,(Go.quiet j9 j1 (iF s 2 0 t) ⟨[t],nW (by grind[F.Rn.wh])⟩).mono ag⟩
 .obtain⟨_,rfl⟩:=hi;show Ok p (jl s t a).2/\Go t 1 s (jl s t a).2;grind[jl,DQ]
 .obtain⟨_,rfl⟩:=hi;grind[FE]
 .obtain⟨_,rfl⟩:=hi;grind[CY]
 .obtain⟨_,rfl⟩:=hi;show Ok p (jU s t a).2/\Go t 1 s (jU s t a).2;unfold jU;split
  .exact⟨h.ok.told 1 t _,Go.Io (af rfl) h.lv rfl rfl rfl rfl⟩
  exact H
 .obtain⟨_,rfl⟩:=hi;grind[GD]
 obtain⟨_,rfl⟩:=hi;grind[xf]
end F
namespace F
variable {p:dL}{s s':Pl}{t:Nat}
def Pl.ends(p:dL)(t:Nat):Nat->Pl->Pl
 | 0,s=>s
 | n+1,s=>if(s.T t).run=true/\(bw s t).nx=p.len (bw s t).f then Pl.ends p t n (s.back t (0,0)) else s
def Pl.gF(s:Pl)(t:Nat):Pl:=s.dJ t (de s t) { bw s t with nx:=(bw s t).nx+1 }
def IA(p:dL)(t:Nat)(s s':Pl):Prop:=∃why s3,kM p (s.gF t) t (p.ins (bw s t).f (bw s t).nx) why s3/\s'=if why=0 then s3 else s3.leave t (0,-why) 3 why
def jz(p:dL)(t:Nat)(s s':Pl):Prop:=if((s.ends p t 21).T t).run=true then IA p t (s.ends p t 21) s' else s'=s.ends p t 21
def PI(p:dL):Prop:=∀f,f<p.nf->∀i,i<p.len f->Kt p f (p.ins f i)
theorem rH(v:B.V){t:Nat}:∀(l:List Nat) (s:Pl),t∉l->(s.eo v l).T t=s.T t
 | [],_,_=>rfl
 | u :: l,s,h=>by
  show((s.gn u v).eo v l).T t=_;rw[rH v l _ (λi=>h (by simp[i])),zG s v (λe=>h (by simp[e]))]
def tK(e:LW s)(ht:fm s t)(v:B.V)(kind:Nat)(x:Int):(s.leave t v kind x).T t=((s.dz t).T t).stop:=by
 unfold Pl.leave;rw[rH v _ _ (λi=>(e.a t ht 5 t (e.b 5 t (ah (ah (ah ⟨rfl,ht⟩))) t i).2).2.2 ⟨rfl,rfl⟩)];exact di _ _ _
def od(i:LW s)(ht:fm s t)(v:B.V):(de s t=0->((s.back t v).T t).run=false)/\(de s t≠0->((s.back t v).T t).run=(s.T t).run/\((s.back t v).T t).fr.length=(s.T t).fr.length-1):=by
 constructor
 .intro e;unfold Pl.back;rw[bf e,tK (i.pop t) ht];rfl
 intro e;unfold Pl.back;rw[au e];grind[gI,de,dq,A0,tG]
theorem tP{p:dL}{t:Nat}:∀(n:Nat) {s:Pl},Rn p s t->(s.T t).fr.length<=n->Ok p (s.ends p t n)/\(((s.ends p t n).T t).run=true->Rn p (s.ends p t n) t/\Go t 0 s (s.ends p t n)/\(bw (s.ends p t n) t).nx≠p.len (bw (s.ends p t n) t).f)/\Go t 1 s (s.ends p t n)
 | 0,s,h,hn=>by
  have:=h.hi;omega
 | n+1,s,h,hn=>by
  unfold Pl.ends;by_cases e:(s.T t).run=true/\(bw s t).nx=p.len (bw s t).f
  .rw[bf e];have G:=h.ok.back h.lv h.wh (dW.num 0);have y:=od h.ok.lw h.ht (0,0);by_cases u:de s t=0
   .have J:=y.1 u;have W:Pl.ends p t n (s.back t (0,0))=s.back t (0,0):=by
     cases n with
     | zero=>rfl
     | succ n=>unfold Pl.ends;grind
    rw[W];exact⟨G,λi=>dp i eR,Go.back h.ok h.lv h.wh (dW.num 0)⟩
   obtain⟨r1,r2⟩:=y.2 u;obtain⟨H,Z,Y,b4⟩:=(nz s t (0,0)).2 u;have o:Go t 0 s (s.back t (0,0)):=Go.same Z H Y (by rw[b4]);have hi:=h.hi;obtain⟨i1,i2,i3⟩:=tP n ⟨G,eV H h.lv,eR⟩ ag;refine⟨i1,λi=>?_,?_⟩
   .obtain⟨j1,j2,j3⟩:=i2 i;exact⟨j1,(o.trans j2).mono ag,j3⟩
   exact(o.trans i3).mono ag
  rw[au e];grind[Go.same,F.Rn.ok,F.Rn.run,F.Go.mono]
def oy(h:Rn p s t)(hn:(bw s t).nx≠p.len (bw s t).f):Rn p (s.gF t) t/\(bw (s.gF t) t).f=(bw s t).f:=by
 have o:=h.ff;have hw:=gI s t (de s t) t { bw s t with nx:=(bw s t).nx+1 };have e:Ok p (s.gF t):=h.ok.dJ h.hi rfl rfl (show(bw s t).nx+1<=p.len (bw s t).f by omega) (λa i=>h.nM i);refine⟨⟨e,h.lv,hw.2.2.1.trans h.run⟩,?_⟩;grind[de,dq,Pl.gF,mh,F.Rn.hi]
def px{k:vF}{why:Int}(Z:k.1<23)(hi:kM p s t k why s'):0<=why/\why<=8/\(why≠0->s'=s):=by
 obtain⟨i,a,b,c⟩:=k;simp only at Z;have G:∀o,xT s t o a b c why s'->0<=why/\why<=8/\(why≠0->s'=s):=λo ht=>by
  rcases ht with⟨_,rfl,_⟩|⟨_,rfl,rfl⟩
  .omega
  grind
 have hz:why=0->0<=why/\why<=8/\(why≠0->s'=s):=λe=>⟨ag,ag,λh=>dp e h⟩;have hS:∀x y,1<=ot s x y/\ot s x y<=3:=λx y=>by grind[ot]
 have Y:∀r:Int×Pl,why=r.1/\s'=r.2->(0<=r.1/\r.1<=8/\(r.1≠0->r.2=s))->0<=why/\why<=8/\(why≠0->s'=s):=λr h W=>by
  grind
 have hc:=oU 22 i ag;repeat' rcases hc with rfl|hc
 .exact hz hi.1
 .exact hz hi.1
 .exact G 2 hi
 .exact G 3 hi
 .exact G 4 hi
 .exact G 5 hi
 .exact hz hi.1
 .exact hz hi.1
 .exact hz hi.1
 .exact hz hi.1
 .rcases hi with⟨_,h,_⟩|⟨_,h,W⟩
  .omega
  grind
 .rcases hi with⟨_,h,_⟩|⟨_,h,W⟩
  .omega
  grind
 .exact hz hi.1
 .obtain⟨u,H⟩:=hi;unfold ry at u;unfold mS at H;grind
 .exact hz hi.1
 .obtain⟨u,H⟩:=hi;unfold kG at u;unfold lV at H;grind
 .exact hz hi.1
 .refine Y _ hi ?_;grind[jl,absurd]
 .refine Y _ hi ?_;grind[jb,absurd]
 .refine Y _ hi ?_;grind[iz,absurd]
 .refine Y _ hi ?_;grind[jU,absurd]
 .refine Y _ hi ?_;grind[kJ,absurd]
 exact hz hi.1
def EN(hP:PI p)(h:Rn p s t)(hx:(bw s t).nx≠p.len (bw s t).f)(hn:s.nt+1<=500000000)(hi:IA p t s s'):Ok p s'/\Go t 1 s s':=by
 obtain⟨why,s3,H,rfl⟩:=hi;obtain⟨i,u⟩:=oy h hx;have y:=h.ff;have G:=hP _ y.1 (bw s t).nx ag;have o:Go t 0 s (s.gF t):=Go.same rfl rfl rfl rfl;obtain⟨o1,Z⟩:=Bk (k:=p.ins (bw s t).f (bw s t).nx) i hn eR H;obtain⟨w1,w2,W⟩:=px G.1 H;by_cases e:why=0
 .rw[bf e];exact⟨o1,(o.trans Z).mono ag⟩
 rw[au e];have J:=W e;subst J;obtain⟨l1,Y,l3⟩:=uF (s.gF t) t (0,-why) 3 why;exact⟨i.ok.leave i.lv (λ_ _=>trivial) (dW.num _) 3 why,(o.trans (Go.ends (ah (af ⟨rfl,rfl⟩)) i.lv i.ht i.ok.nd Y l1 l3 (λ_=>EE i.ok i.lv (λ_ _=>trivial) i.wh (dW.num _) 3 why))).mono ag⟩
def wL(hP:PI p)(h:Rn p s t)(hn:s.nt+1<=500000000)(i:jz p t s s'):Ok p s'/\Go t 1 s s':=by
 obtain⟨i1,y,u⟩:=tP 21 h (gp h.fw.n2);unfold jz at i;by_cases e:((s.ends p t 21).T t).run=true
 .rw[bf e]at i;obtain⟨H,o,G⟩:=y e;obtain⟨_,_,_,J,_⟩:=id o;obtain⟨k1,k2⟩:=EN hP H G ag i;exact⟨k1,(o.trans k2).mono ag⟩
 grind
def iu(p:dL)(t:Nat):Nat->Pl->Pl->Prop
 | 0,s,s'=>s'=s
 | n+1,s,s'=>if(s.T t).run=true then ∃s1,jz p t s s1/\iu p t n s1 s' else s'=s
theorem Go.nt{c:Nat}(h:Go t c s s'):s.nt<=s'.nt/\s'.nt<=s.nt+c:=by
 obtain⟨_,_,_,h,_⟩:=h;exact h
theorem AT{p:dL}{t:Nat}(hP:PI p):∀(n:Nat) {s s':Pl},Ok p s->fm s t->s.nt+n<=500000000->iu p t n s s'->Ok p s'/\Go t n s s'
 | 0,s,s',h,_,_,hr=>by
  have e:s'=s:=hr;grind[Go.same]
 | n+1,s,s',h,ht,hn,hr=>by
  unfold iu at hr;by_cases e:(s.T t).run=true
  .rw[bf e]at hr;obtain⟨s1,y,o⟩:=hr;obtain⟨k1,k2⟩:=wL hP ⟨h,(h.rn t ht e).2,e⟩ ag y;have i:=k2.nt;obtain⟨G,u⟩:=AT hP n k1 ⟨ht.1,dU ht.2 i.1⟩ ag o;exact⟨G,(k2.trans u).mono ag⟩
  rw[au e]at hr;subst hr;exact⟨h,(Go.same rfl rfl rfl rfl).mono ag⟩
def iS(p:dL)(s s':Pl):Prop:=match s.q 2 0 with
 | []=>s'=s
 | t :: _=>∃s1,iu p t p.qn (s.start t) s1/\s'=if(s1.T t).run=true then s1.dY 2 0 t else s1
def uP(hP:PI p)(h:Ok p s)(hn:s.nt+p.qn<=500000000)(u:iS p s s'):Ok p s'/\(s.q 2 0=[]->s'=s)/\∀t r,s.q 2 0=t :: r->∃y,Go t p.qn y s'/\y.ev=s.ev/\y.lv=s.lv/\y.nt=s.nt/\y.q 2 0=r:=by
 unfold iS at u
 cases hq:s.q 2 0 with
 | nil=>
  grind
 | cons t r=>
  rw[hq]at u;obtain⟨s1,h1,J⟩:=u;have hl:fN s 2 0:=af ⟨rfl,rfl⟩;have G:t∈s.q 2 0:=by rw[hq];simp
  have H:=h.ql 2 0 hl t G;have ht:=h.lt t H;have i:(s.start t).nt=s.nt:=gg s t;obtain⟨k1,k2⟩:=AT hP p.qn (h.start H) ((ey i).2 ht) ag h1;have Y:(s.start t).q 2 0=r:=by
   show(s.dz t).q 2 0=r;rw[gJ ((h.lw.b 2 0 hl t G).2)];show(s.fF 2 0 ((s.q 2 0).erase t)).q 2 0=r;rw[gH,hq];simp
  obtain⟨f1,_,_,f4,_⟩:=g8 s t;have o:Ok p s'/\Go t p.qn (s.start t) s':=by
   by_cases e:(s1.T t).run=true
   .rw[bf e]at J;subst J;have hr:=k1.rn t (⟨ht.1,dU ht.2 (by rw[<-i];exact k2.nt.1)⟩) e;obtain⟨j1,_,_,_,_,_,_,_,j9,_⟩:=jg s1 2 0 t;exact⟨k1.dY hr.2,(k2.trans (Go.quiet j9 j1 (iF s1 2 0 t) ⟨[t],nW eR⟩)).mono ag⟩
   rw[au e]at J;subst J;exact⟨k1,k2⟩
  refine⟨o.1,λe=>by(cases e),λt' r' e=>?_⟩;injection e with e1 e2;subst e1 e2;exact⟨s.start t,o.2,f4,f1,i,Y⟩
def Pl.iD(s:Pl):List Nat->Pl
 | []=>s
 | t :: l=>if(s.T t).iM<=s.clk then(s.dY 2 0 t).iD l else s
structure Qu(s s':Pl):Prop where
 ev:s'.ev=s.ev
 lv:s'.lv=s.lv
 nt:s'.nt=s.nt
 sp:s'.sp=s.sp
 q:∃m,s'.q 2 0=s.q 2 0++m
theorem Qu.refl(s:Pl):Qu s s:=⟨rfl,rfl,rfl,rfl,[],eR⟩
theorem Qu.trans{s s' e:Pl}(h:Qu s s')(i:Qu s' e):Qu s e:=by
 obtain⟨m,u⟩:=h.q;obtain⟨m',o⟩:=i.q;exact⟨i.ev.trans h.ev,i.lv.trans h.lv,i.nt.trans h.nt,i.sp.trans h.sp,m++m',eR⟩
theorem Qu.dY(hw:(s.T t).wh≠some (2,0)):Qu s (s.dY 2 0 t):=by
 obtain⟨o,_,_,_,_,_,_,_,i,e⟩:=jg s 2 0 t;exact⟨i,o,iF s 2 0 t,e,[t],nW hw⟩
theorem oX{p:dL}:∀(l:List Nat) {s:Pl},Ok p s->s.q 3 0=l->Ok p (s.iD l)/\Qu s (s.iD l)
 | [],s,h,_=>⟨h,Qu.refl s⟩
 | t :: l,s,h,hq=>by
  have H:fN s 3 0:=ah (af ⟨rfl,rfl⟩);have o:t∈s.q 3 0:=by rw[hq];simp
  have i:=(h.lw.b 3 0 H t o).2;unfold Pl.iD;split
  .have u:(s.dY 2 0 t).q 3 0=l:=by
    show((s.dz t).fF 2 0 ((s.dz t).q 2 0++[t])).q 3 0=l;rw[fY _ _ ag,gJ i];show(s.fF 3 0 ((s.q 3 0).erase t)).q 3 0=l;rw[gH,hq];simp
   obtain⟨k1,k2⟩:=oX l (h.dY (h.ql 3 0 H t o)) u;grind[Qu.dY,F.Qu.trans]
  grind[Qu.refl]
def Pl.qe(s:Pl)(k b:Nat):Pl:=match s.q 4 k with
 | u :: _=>s.gn u (0,(b:Int))
 | []=>if(s.ft k).length<64 then s.fO k (s.ft k++[b]) else s
def Pl.recv(s:Pl)(x:Int×Nat):Pl:=if 0<=x.1/\x.1<4 then s.qe x.1.toNat x.2 else s
def Pl.fh(s:Pl):List (Int×Nat)->Pl
 | []=>s
 | x :: l=>(s.recv x).fh l
theorem yr{k b:Nat}(H:k<4)(Z:b<256)(h:Ok p s):Ok p (s.qe k b)/\Qu s (s.qe k b):=by
 unfold Pl.qe
 cases hq:s.q 4 k with
 | cons u r=>
  have G:=(h.lw.b 4 k (ah (ah (af ⟨rfl,H⟩))) u eR).1;obtain⟨W,_,_,_,_,_,_,_,b9,o⟩:=qG s u (0,(b:Int));exact⟨h.gn G (λ_=>trivial) (dW.num _),b9,W,oq s u _,o,AB h G _⟩
 | nil=>
  show Ok p (if(s.ft k).length<64 then s.fO k (s.ft k++[b]) else s)/\Qu s (if(s.ft k).length<64 then s.fO k (s.ft k++[b]) else s);split
  .rename_i J;refine⟨h.fO k _ ⟨eR,λx Y=>?_⟩,rfl,rfl,rfl,rfl,[],jx gS⟩;grind[F.fL.bt]
  grind[Qu.refl]
theorem nS{p:dL}:∀(l:List (Int×Nat)) {s:Pl},(∀x,x∈l->x.2<256)->Ok p s->Ok p (s.fh l)/\Qu s (s.fh l)
 | [],s,_,h=>⟨h,Qu.refl s⟩
 | x :: l,s,hl,h=>by
  have e:Ok p (s.recv x)/\Qu s (s.recv x):=by
   unfold Pl.recv;split
   .grind[yr]
   exact⟨h,Qu.refl s⟩
  obtain⟨k1,k2⟩:=nS l (λy i=>hl y (by simp[i])) e.1;exact⟨k1,e.2.trans k2⟩
def Pl.gr(s:Pl)(c:Int):Pl:={ s with clk:=c }
def fL.gr{X:Nat->Prop}(h:fL p s X){c:Int}(i:0<=c)(e:c<=9223372036854775807):fL p (s.gr c) X:=
 { lw:=h.lw.same rfl rfl (λ_=>rfl),ww:=h.ww,nd:=h.nd,lt:=h.lt,ql:=h.ql,lf:=h.lf,rn:=h.rn,ol:=h.ol,ok:=h.ok,kn:=h.kn,kz:=h.kz,fw:=h.fw,hl:=h.hl,fc:=h.fc,bt:=h.bt,c0:=i,c1:=e }
def Pl.jr(p:dL)(s:Pl):Pl:=s.vk (B.work (B.GB (eG p s)) (eG p s).length s.M p.n p.wk s.kd)
def Pl.ns(s:Pl):Pl:={ s with ev:=[] }
def ku(p:dL)(s:Pl)(ticks:Int)(l:List (Int×Nat))(s':Pl):Prop:=
 if((s.gr (B.iJ s.clk ticks)).fh l).lv≠[]/\((s.gr (B.iJ s.clk ticks)).fh l).sp=false then
  ∃s1,iS p (((s.gr (B.iJ s.clk ticks)).fh l).iD (((s.gr (B.iJ s.clk ticks)).fh l).q 3 0)) s1/\s'=s1.jr p
 else s'=(s.gr (B.iJ s.clk ticks)).fh l
end F
namespace D
open F
variable {v:B.V}{ρ:Nat->Nat}
structure PD(p:dL) (d:Dp):Prop where
 n:d.n=p.n
 qn:d.qn=p.qn
 wk:d.wk=p.wk
 mt:d.mt=p.mt
 nf:d.nf=p.nf
 len:∀f,f<p.nf->d.len f=p.len f
 rg:∀f,f<p.nf->d.rg f=p.rg f
 ins:∀f i,f<p.nf->i<p.len f->d.ins f i=p.ins f i
def tr(ρ:Nat->Nat)(v:B.V):B.V:=if v.1=0 then v else(ρ v.1,0)
structure FS(p:dL) (ρ:Nat->Nat) (i:Nat) (a b:jc):Prop where
 f:b.f=a.f
 nx:b.nx=a.nx
 bk:i≠0->b.bk.2.1=a.bk.2.1
 R:∀k,k<p.rg a.f->b.R k=tr ρ (a.R k)
structure HS(a:qA) (b:Dt):Prop where
 h0:a.wh=none->b.how=1
 h2:∀y,a.wh=some (2,y)->b.how=1
 h3:∀y,a.wh=some (3,y)->b.how=2/\b.lH=a.iM
 h4:∀k,a.wh=some (4,k)->b.how=3/\b.what=k/\∃i,a.lf=some i/\b.into=(i.2.1:Int)
 h5:∀k,a.wh=some (5,k)->b.how=4/\b.what=k/\∃i,a.lf=some i/\b.into=(i.2.1:Int)
structure TS(p:dL) (ρ:Nat->Nat) (a:qA) (b:Dt):Prop where
 l:b.fr.length=a.fr.length
 f:∀i,i<a.fr.length->FS p ρ i (a.fr.getD i n6) (b.fr.getD i n6)
 o:b.out=(0,0)
 h:HS a b
structure CS(N:Nat->List B.V) (ck:Nat->Nat) (nc:Nat) (M':Nat->List B.V) (ck':Nat->Nat) (ρ:Nat->Nat) (c:Nat):Prop where
 c1:1<=ρ c
 c2:ρ c<=nc
 M:M' (ρ c)=(N c).map (tr ρ)
 k:ck' (ρ c)=ck c
 f:ck c≠0->N c≠[]
 l:(N c).length<=8
def C1(m:Dm)(x a b:Nat):Prop:=if x=3 then(m.T a).lH<(m.T b).lH\/((m.T a).lH=(m.T b).lH/\(m.T a).jw<(m.T b).jw) else(m.T a).jw<(m.T b).jw
def oR(s:Pl)(t:Nat):B.V:=s.out.getD (t-1) (0,0)
abbrev pU(p:dL)(s:Pl)(c:Nat):Prop:=B.nK (eG p s) s.M c
def GA(G:Dc)(n:Nat):Prop:=G.all=n/\G.sure<=n/\G.nF<=n
structure eF(p:dL) (K:Nat) (s:Pl) (m:Dm) (ρ:Nat->Nat):Prop where
 nt:m.nt=s.nt
 q:m.q=s.q 2 0
 xL:m.ft=s.ft
 sp:m.sp=s.sp
 ev:m.ev=s.ev
 ck:m.clk=s.clk
 T:∀t,t∈s.lv->TS p ρ (s.T t) (m.T t)
 O:∀t,fm s t->t∉s.lv->(m.T t).how=5/\(m.T t).fr=[]/\(m.T t).out=tr ρ (oR s t)
 C:∀c,pU p s c->CS s.M s.ck m.nc m.M m.ck ρ c
 I:∀c c',pU p s c->pU p s c'->ρ c=ρ c'->c=c'
 Kp:∀v,v∈s.kp->∃t,fm s t/\t∉s.lv/\oR s t=v
 L:∀x y,fN s x y->x≠2->(s.q x y).Pairwise (C1 m x)
 N:∀t,t∈s.lv->(m.T t).jw<=m.jw
 A:GA m.G m.nc
 lm:s.lv.length<=p.mt
 B:m.nc<=K/\m.jw<=K
theorem oZ(x:Int):tr ρ (0,x)=(0,x):=bf rfl
theorem ox(h:v.1=0):tr ρ v=v:=bf h
theorem qI(h:v.1≠0):tr ρ v=(ρ v.1,0):=au h
end D
namespace D
open F
variable {p:dL}{K K':Nat}{s s':Pl}{m m':Dm}{ρ:Nat → Nat}{X:Nat → Prop}
theorem pU.sub(u:s'.M=s.M)(i:∀v,sH p s' v->dW p s v){c:Nat}(e:pU p s' c):pU p s c:=by
 unfold pU at e;rw[u]at e;exact B.uo (λv o=>i v (iw.1 o)) e
theorem eF.cells(h:eF p K s m ρ)(i:s'.M=s.M)(y:s'.ck=s.ck)(u:∀v,sH p s' v->dW p s v)(e:m'.nc=m.nc/\m'.M=m.M/\m'.ck=m.ck):(∀c,pU p s' c->CS s'.M s'.ck m'.nc m'.M m'.ck ρ c)/\∀c o,pU p s' c->pU p s' o->ρ c=ρ o->c=o:=
 ⟨λc k=>by
  grind[pU.sub,D.eF.C],λc o k W=>h.I c o (pU.sub i u k) (pU.sub i u W)⟩
def Jm{t:Nat}(Z:∀u,u∈s'.lv->u∈s.lv)(W:s'.kp=s.kp)(J:∀u,u≠t->s'.T u=s.T u)(ht:t∈s'.lv->∀i,i<(s'.T t).fr.length->∀a,a<p.rg (dq s' t i).f->dW p s ((dq s' t i).R a)):∀v,sH p s' v->dW p s v:=by
 rintro v (⟨u,i,a,G,hi,o,e⟩|H)
 .by_cases y:u=t
  .grind
  have Y:dq s' u i=dq s u i:=gD eR;rw[Y]at o e;rw[J u y]at hi;exact dW.root (af ⟨u,i,a,Z u G,hi,o,e⟩)
 rw[W]at H;exact dW.root (ah H)
def eF.eC{t:Nat}(h:eF p K s m ρ)(a2:t∈s.lv)(e:s'.nt=s.nt/\s'.lv=s.lv/\s'.out=s.out/\s'.kp=s.kp/\s'.M=s.M/\s'.ck=s.ck)(e':m'.nt=m.nt/\m'.nc=m.nc/\m'.M=m.M/\m'.ck=m.ck/\m'.G=m.G)(hs:∀u,u≠t->s'.T u=s.T u)(hm:∀u,u≠t->m'.T u=m.T u)(ht:TS p ρ (s'.T t) (m'.T t))(hg:∀i,i<(s'.T t).fr.length->∀a,a<p.rg (dq s' t i).f->dW p s ((dq s' t i).R a))(hq:m'.q=s'.q 2 0)(hb:m'.ft=s'.ft)(a1:m'.sp=s'.sp)(a0:m'.ev=s'.ev)(Y:m'.clk=s'.clk)(hL:∀x y,fN s x y->x≠2->(s'.q x y).Pairwise (C1 m' x))(hN:(m'.T t).jw<=m'.jw/\m.jw<=m'.jw)(hK:K<=K'/\m'.jw<=K'):eF p K' s' m' ρ:=by
 obtain⟨W,J,e3,e4,e5,e6⟩:=e;obtain⟨f1,Z,f3,f4,f5⟩:=e';have ho:∀u,oR s' u=oR s u:=λu=>by grind[oR]
 obtain⟨k1,k2⟩:=h.cells (m':=m') e5 e6 (Jm (p:=p) (λu H=>by grind) e4 hs (λ_=>hg)) ⟨Z,f3,f4⟩;refine⟨by rw[f1,W];exact h.nt,hq,hb,a1,a0,Y,λu H=>?_,λu H hn=>?_,k1,k2,λv hv=>?_,λx y hl hx=>hL x y ((gC W).1 hl) hx,λu H=>?_,by rw[f5,Z];exact h.A,eV J h.lm,by rw[Z];exact dU h.B.1 hK.1,hK.2⟩
 .grind[D.eF.T]
 .grind[ey,D.eF.O]
 .grind[ey,D.eF.Kp]
 grind[Nat.le_trans,D.eF.N]
def ve{x:Nat}{l:List Nat}(u:l.Pairwise (C1 m x))(h:∀a,a∈l->(m'.T a).lH=(m.T a).lH/\(m'.T a).jw=(m.T a).jw):l.Pairwise (C1 m' x):=by
 grind[List.Pairwise.imp_of_mem,C1]
def eF.L0(h:eF p K s m ρ)(e:s'.q=s.q)(i:∀a,(m'.T a).lH=(m.T a).lH/\(m'.T a).jw=(m.T a).jw):∀x y,fN s x y->x≠2->(s'.q x y).Pairwise (C1 m' x):=λx y o u=>by
 rw[e];exact ve (h.L x y o u) (λa _=>i a)
def Ej(s:Pl)(t x y:Nat):((s.dz t).q x y).Sublist (s.q x y):=by
 cases hw:(s.T t).wh with
 | none=>grind[fB]
 | some i=>
  rw[gJ (x:=i.1) (y:=i.2) hw];show((s.fF i.1 i.2 ((s.q i.1 i.2).erase t)).q x y).Sublist _;grind[gH,List.erase_sublist,fY]
theorem yB{t x y a:Nat}(u:LW s)(ht:fm s t)(o:fN s x y)(i:a∈(s.dz t).q x y):a≠t:=λe=>by
 subst e;have:=((u.dz ht).b x y ((gC (gg s a)).2 o) a i).2;grind[ke]
def eF.FQ{t:Nat}(h:eF p K s m ρ)(G:LW s)(ht:fm s t)(o:∀u,u≠t->m'.T u=m.T u)(x y:Nat)(e:fN s x y)(hx:x≠2):((s.dz t).q x y).Pairwise (C1 m' x):=
 ve ((h.L x y e hx).sublist (Ej s t x y)) (λa i=>by grind[yB])
theorem Rn.jm{t:Nat}(e:t∈s.lv)(i:Nat)(hi:i<(s.T t).fr.length)(a:Nat)(o:a<p.rg (dq s t i).f):dW p s ((dq s t i).R a):=dW.root (af ⟨t,i,a,e,hi,o,rfl⟩)
theorem HS.same{a u:qA}{b i:Dt}(h:HS a b)(o:u.wh=a.wh)(J:u.lf=a.lf)(W:u.iM=a.iM)(e:i.how=b.how)(G:i.what=b.what)(H:i.into=b.into)(Y:i.lH=b.lH):HS u i:=
 ⟨λk=>by grind[D.HS.h0],λy k=>by grind[D.HS.h2],λy k=>by grind[D.HS.h3],λy k=>by grind[D.HS.h4],λy k=>by grind[D.HS.h5]⟩
theorem eF.dJ(h:eF p K s m ρ){t i:Nat}{f H:jc}(G:t∈s.lv)(hi:i<(s.T t).fr.length)(hf:FS p ρ i f H)(hg:f.f=(dq s t i).f)(hR:∀a,a<p.rg f.f->dW p s (f.R a)):eF p K (s.dJ t i f) (m.dJ t i H) ρ:=by
 have Y:=h.T t G;have e1:(s.dJ t i f).T t={ s.T t with fr:=(s.T t).fr.set i f }:=di _ _ _;have J:(m.dJ t i H).T t=(m.T t).mz ((m.T t).fr.set i H):=gi _ _ _;refine h.eC G ⟨rfl,rfl,rfl,rfl,rfl,rfl⟩ ⟨rfl,rfl,rfl,rfl,rfl⟩ (λu e=>qp s f e) (λu e=>fW _ _ e) ⟨?_,λj W=>?_,?_,?_⟩ (λj W a Z=>?_) h.q h.xL h.sp h.ev h.ck (h.L0 rfl (λa=>?_)) ⟨?_,bq _⟩ ⟨bq _,h.B.2⟩
 .rw[e1,J];show((m.T t).fr.set i H).length=((s.T t).fr.set i f).length;grind[List.length_set,D.TS.l]
 .rw[e1]at W ⊢;rw[J];have y:j<((s.T t).fr.set i f).length:=W;rw[eA]at y;show FS p ρ j (((s.T t).fr.set i f).getD j n6) (((m.T t).fr.set i H).getD j n6);rw[mQ hi,mQ (eV Y.l hi)];by_cases e:j=i
  .grind
  rw[au e,au e];exact Y.f j y
 .rw[J];exact Y.o
 .rw[e1,J];exact Y.h.same rfl rfl rfl rfl rfl rfl rfl
 .rw[e1]at W;have y:j<((s.T t).fr.set i f).length:=W;rw[eA]at y;by_cases e:j=i
  .grind[mh]
  rw[lN s f (λe'=>e e'.2)]at Z ⊢;grind[Rn.jm]
 .by_cases e:a=t
  .subst e;rw[J];exact⟨rfl,rfl⟩
  rw[show(m.dJ t i H).T a=m.T a from fW _ _ e];omega
 rw[J];exact h.N t G
theorem eF.oK(h:eF p K s m ρ){t:Nat}(i:t∈s.lv)(hn:(s.T t).fr≠[])(a:Nat){v:B.V}(J:dW p s v):eF p K (s.dJ t (de s t) ((bw s t).set a v)) (m.dJ t (qd m t) ((pS m t).set a (tr ρ v))) ρ:=by
 have G:=h.T t i;have hi:de s t<(s.T t).fr.length:=by
  have:(s.T t).fr.length≠0:=λe=>hn (db.1 e);unfold de;omega
 have e:qd m t=de s t:=by unfold qd de;rw[G.l]
 have H:pS m t=fU m t (de s t):=by unfold pS;rw[e]
 have u:=G.f _ hi;rw[e,H];refine h.dJ i hi ⟨u.f,u.nx,u.bk,λk y=>?_⟩ rfl (λk y=>?_)
 .show B.set (fU m t (de s t)).R a (tr ρ v) k=tr ρ (B.set (dq s t (de s t)).R a v k);by_cases o:k=a
  .grind[B.jN]
  rw[B.iX _ _ _ _ o,B.iX _ _ _ _ o];exact u.R k y
 show dW p s (B.set (dq s t (de s t)).R a v k);by_cases o:k=a
 .grind[B.jN]
 rw[B.iX _ _ _ _ o];exact Rn.jm i _ hi k y
theorem eF.nx(h:eF p K s m ρ){t:Nat}(i:t∈s.lv)(hn:(s.T t).fr≠[])(a:Nat):eF p K (s.dJ t (de s t) { bw s t with nx:=a }) (m.dJ t (qd m t) { pS m t with nx:=a }) ρ:=by
 have u:=h.T t i;have hi:de s t<(s.T t).fr.length:=by
  have:(s.T t).fr.length≠0:=λe=>hn (db.1 e);unfold de;omega
 have e:qd m t=de s t:=by unfold qd de;rw[u.l]
 have G:pS m t=fU m t (de s t):=by unfold pS;rw[e]
 have o:=u.f _ hi;rw[e,G];exact h.dJ i hi ⟨o.f,rfl,o.bk,o.R⟩ rfl (λk y=>Rn.jm i _ hi k y)
def eF.told(h:eF p K s m ρ)(kind t:Nat)(x:Int):eF p K (s.told kind t x) (m.told kind t x) ρ:=
 { h with ev:=by show m.ev++_=s.ev++_;rw[h.ev] }
def eF.gr(h:eF p K s m ρ)(c:Int):eF p K (s.gr c) (m.gr c) ρ:={ h with ck:=rfl }
def eF.vk(h:eF p K s m ρ)(kd:B.Kd):eF p K (s.vk kd) m ρ:={ h with }
theorem eF.fO(h:eF p K s m ρ)(k:Nat)(l:List Nat):eF p K (s.fO k l) (m.fO k l) ρ:={ h with xL:=by show(λi=>if i=k then l else m.ft i)=(λi=>if i=k then l else s.ft i);rw[h.xL] }
theorem eF.mono(h:eF p K s m ρ)(hK:K<=K'):eF p K' s m ρ:={ h with B:=⟨dU h.B.1 hK,dU h.B.2 hK⟩ }
theorem eF.join(h:eF p K s m ρ){t:Nat}(hO:fL p s X)(G:t∈s.lv)(hw:(s.T t).wh≠some (2,0)){x:Dt}(W:x.fr=(m.T t).fr/\x.out=(m.T t).out/\x.jw=(m.T t).jw/\x.how=1):eF p K (s.dY 2 0 t) ((m.dx t x).sE t) ρ:=by
 have hT:=h.T t G;have Y:((m.dx t x).sE t).T t=x:=gi _ _ _;have e1:=jT s 2 0 t;have H:((s.dY 2 0 t).T t).fr=(s.T t).fr:=by rw[e1];exact kg s t t
 obtain⟨j1,j2,j3,j4,j5,j6,j7,j8,j9,Z⟩:=jg s 2 0 t;have hf:∀i,dq (s.dY 2 0 t) t i=dq s t i:=λi=>gD H;refine h.eC G ⟨iF s 2 0 t,j1,j2,j3,j7,j8⟩ ⟨rfl,rfl,rfl,rfl,rfl⟩ (λu e=>nh s e) (λu e=>fW _ _ e) ⟨?_,λj J=>?_,?_,?_⟩ (λj J a ha=>?_) ?_ ?_ ?_ ?_ ?_ (λa b hl hx=>?_) ⟨?_,bq _⟩ ⟨bq _,h.B.2⟩
 .rw[H,Y,W.1];exact hT.l
 .grind[D.TS.f]
 .rw[Y,W.2.1];exact hT.o
 .rw[e1,Y];refine⟨λe=>(by cases e),λy _=>W.2.2.2,λy e=>?_,λy e=>?_,λy e=>?_⟩ <;>
  .injection e with e;grind
 .rw[H]at J;rw[hf]at ha ⊢;grind[Rn.jm]
 .show m.q++[t]=_;rw[nW hw,h.q]
 .show m.ft=_;rw[j4];exact h.xL
 .show m.sp=_;rw[Z];exact h.sp
 .show m.ev=_;rw[j9];exact h.ev
 .show m.clk=_;rw[j5];exact h.ck
 .have hq:(s.dY 2 0 t).q a b=(s.dz t).q a b:=fY _ _ (λe=>hx e.1);rw[hq];exact h.FQ hO.lw (hO.lt t G) (λu e=>fW _ _ e) a b hl hx
 rw[Y,W.2.2.1];exact h.N t G
theorem eF.gn(h:eF p K s m ρ){t:Nat}(o:fL p s X)(i:t∈s.lv)(hX:X t){k:vF}(W:(s.T t).lf=some k)(hi:(m.T t).into=(k.2.1:Int)){v:B.V}(J:dW p s v):eF p K (s.gn t v) (m.ready t (tr ρ v)) ρ:=by
 obtain⟨x,y,hw,a0⟩:=o.lf t (o.lt t i) eR;have hn:=(o.fw t i hX).n1;have G:de s t<(s.T t).fr.length:=by
  have:(s.T t).fr.length≠0:=λe=>hn (db.1 e);unfold de;omega
 have H:(m.dJ t (qd m t) ((pS m t).set k.2.1 (tr ρ v))).T t=(m.T t).mz ((m.T t).fr.set (qd m t) ((pS m t).set k.2.1 (tr ρ v))):=gi _ _ _;rw[pB v W];have Y:m.ready t (tr ρ v)=((m.dJ t (qd m t) ((pS m t).set k.2.1 (tr ρ v))).dx t (((m.T t).hw 1).mz ((m.T t).fr.set (qd m t) ((pS m t).set k.2.1 (tr ρ v))))).sE t:=by
  unfold Dm.ready;rw[hi,mm,js];unfold Dm.dJ;rw[jQ];show((m.vr t).dx t ((((m.dx t ((m.T t).hw 1)).T t)).mz ((((m.dx t ((m.T t).hw 1)).T t)).fr.set _ _)))=_;rw[gi];show(((m.dx t ((m.T t).hw 1)).dx t _).sE t)=_;rw[jQ];rfl
 rw[Y];exact (h.oK i hn k.2.1 J).join (t:=t) (x:=((m.T t).hw 1).mz ((m.T t).fr.set (qd m t) ((pS m t).set k.2.1 (tr ρ v)))) (o.oK i hX G k.2.1 J) i (by grind[gI]) ⟨jx H,jx H,jx H,rfl⟩
def eF.Nb(h:eF p K s m ρ){t:Nat}(u:fL p s X)(i:t∈s.lv)(hw:(s.T t).wh≠some (2,0)){x:Dt}(o:x={ m.T t with into:=-1 })(v:B.V):eF p K (s.dY 2 0 t) ((m.dx t x).ready t v) ρ:=by
 subst o;have e:(m.dx t { m.T t with into:=-1 }).ready t v=(m.dx t (({ m.T t with into:=-1 }:Dt).hw 1)).sE t:=by
  unfold Dm.ready;rw[gi,au eR];unfold Dm.vr;rw[gi,jQ]
 rw[e];exact h.join u i hw ⟨rfl,rfl,rfl,rfl⟩
theorem eF.wait(h:eF p K s m ρ){x y t:Nat}{k:vF}(hO:fL p s X)(J:t∈s.lv)(hw:(s.T t).wh=none)(hl:fN s x y)(hx:x=4\/x=5):eF p (K+1) (s.wait x y t k) (m.wait t (x-1) y (k.2.1:Int)) ρ:=by
 have hT:=h.T t J;have ht:=hO.lt t J;have H:(m.wait t (x-1) y (k.2.1:Int)).T t=(m.T t).wt (x-1) y (k.2.1:Int) (m.jw+1):=gi _ _ _;have e1:(s.wait x y t k).T t=(((s.dz t).T t).to x y).lK k:=by
  show((s.dY x y t).dx t _).T t=_;rw[di,jT]
 have G:((s.wait x y t k).T t).fr=(s.T t).fr:=by rw[e1];exact kg s t t
 obtain⟨j1,j2,j3,j4,j5,j6,j7,j8,j9,a3⟩:=jg s x y t;have hf:∀i,dq (s.wait x y t k) t i=dq s t i:=λi=>gD G;have hm:∀u,u≠t->(m.wait t (x-1) y (k.2.1:Int)).T u=m.T u:=λu e=>fW _ _ e;have a0:∀a b,(s.wait x y t k).q a b=if a=x/\b=y then(s.dz t).q x y++[t] else(s.dz t).q a b:=λa b=>rfl
 refine h.eC J ⟨iF s x y t,j1,j2,j3,j7,j8⟩ ⟨rfl,rfl,rfl,rfl,rfl⟩ (λu e=>(dR _ _ e).trans (nh s e)) hm ⟨?_,λj Y=>?_,?_,?_⟩ (λj Y a ha=>?_) ?_ ?_ ?_ ?_ ?_ (λa b W Z=>?_) ⟨?_,Nat.le_succ _⟩ ⟨Nat.le_succ _,Nat.succ_le_succ h.B.2⟩
 .rw[G,H];exact hT.l
 .rw[G,H];rw[G]at Y;exact hT.f j Y
 .rw[H];exact hT.o
 .rw[e1,H];refine⟨λe=>(by cases e),λz e=>?_,λz e=>?_,λz e=>?_,λz e=>?_⟩
  .injection e with e;grind
  .injection e with e;grind
  .injection e with e;injection e with e1 H
   exact⟨by show x-1=3;omega,H,k,rfl,rfl⟩
  injection e with e;injection e with e1 H
  exact⟨by show x-1=4;omega,H,k,rfl,rfl⟩
 .rw[G]at Y;rw[hf]at ha ⊢;grind[Rn.jm]
 .show m.q=_;rw[a0,eD,fB hw];exact h.q
 .show m.ft=(s.dY x y t).ft;rw[j4];exact h.xL
 .show m.sp=(s.dY x y t).sp;rw[a3];exact h.sp
 .show m.ev=(s.dY x y t).ev;rw[j9];exact h.ev
 .show m.clk=(s.dY x y t).clk;rw[j5];exact h.ck
 .rw[a0];by_cases e:a=x/\b=y
  .obtain⟨rfl,rfl⟩:=e;rw[bf ⟨rfl,rfl⟩,List.pairwise_append];refine⟨h.FQ hO.lw ht hm a b W Z,List.pairwise_singleton _ _,λc hc c' a1=>?_⟩;rw[fX.1 a1];unfold C1;rw[eD,hm c (yB hO.lw ht W hc),H];exact Nat.lt_succ_of_le (h.N c (hO.ql a b W c (po hc)))
  rw[au e];exact h.FQ hO.lw ht hm a b W Z
 rw[H];exact bq _
theorem ud{R:Nat->Nat->Prop}{q:Nat->Bool}{t:Nat}:∀(l:List Nat),l.Pairwise R->(∀a,a∈l->q a=false->R a t)->(∀a,a∈l->q a=true->R t a)->(∀a b,a∈l->b∈l->R a b->q a=true->q b=true)->(l.take (l.findIdx q)++t :: l.drop (l.findIdx q)).Pairwise R
 | [],_,_,_,_=>by simp
 | a :: l,h,h1,h2,h3=>by
  rw[List.pairwise_cons]at h
  cases e:q a with
  | true=>
   grind[List.pairwise_cons]
  | false=>
   rw[List.findIdx_cons,e];show(a :: (l.take (l.findIdx q)++t :: l.drop (l.findIdx q))).Pairwise R;rw[List.pairwise_cons];refine⟨λb i=>?_,ud l h.2 (λb i=>h1 b (by simp[i])) (λb i=>h2 b (by simp[i])) (λb c i o=>h3 b c (by simp[i]) (by simp[o]))⟩;grind
theorem eF.iq(h:eF p K s m ρ){t:Nat}{u:Int}{x:Dt}(hO:fL p s X)(Z:t∈s.lv)(hw:(s.T t).wh=none)(ex:x={ (m.T t).wt 2 0 (-1) (m.jw+1) with lH:=u }):eF p (K+1) (s.iq t u) ((m.wait t 2 0 (-1)).dx t x) ρ:=by
 have hT:=h.T t Z;have ht:=hO.lt t Z;have e2:((m.wait t 2 0 (-1)).dx t x).T t=x:=gi _ _ _
 have aA:(s.fK t u).T t=(s.T t).tl u:=di _ _ _;have Y:s.iq t u=(s.fK t u).oL 3 0 t ((s.q 3 0).take (Cn (s.fK t u) u)++t :: (s.q 3 0).drop (Cn (s.fK t u) u)):=by
  unfold Pl.iq Pl.into;rw[fB (by grind[mF])]
 have e1:(s.iq t u).T t=((s.T t).tl u).to 3 0:=by
  rw[Y];show((Pl.fF _ 3 0 _).dx t _).T t=_;rw[di,aA]
 have hs:∀a,a≠t->(s.iq t u).T a=s.T a:=λa e=>by
  rw[Y];show((Pl.fF _ 3 0 _).dx t _).T a=_;rw[dR _ _ e];exact dR _ _ e
 have W:((s.iq t u).T t).fr=(s.T t).fr:=jx e1;have hf:∀i,dq (s.iq t u) t i=dq s t i:=λi=>gD W;have hm:∀a,a≠t->((m.wait t 2 0 (-1)).dx t x).T a=m.T a:=λa e=>(fW _ _ e).trans (fW _ _ e);have a4:∀a b,(s.iq t u).q a b=if a=3/\b=0 then(s.q 3 0).take (Cn (s.fK t u) u)++t :: (s.q 3 0).drop (Cn (s.fK t u) u) else s.q a b:=λa b=>by rw[Y];rfl
 have a6:(s.iq t u).nt=s.nt/\(s.iq t u).lv=s.lv/\(s.iq t u).out=s.out/\(s.iq t u).kp=s.kp/\(s.iq t u).M=s.M/\(s.iq t u).ck=s.ck/\(s.iq t u).ft=s.ft/\(s.iq t u).sp=s.sp/\(s.iq t u).ev=s.ev/\(s.iq t u).clk=s.clk:=by rw[Y];exact⟨rfl,rfl,rfl,rfl,rfl,rfl,rfl,rfl,rfl,rfl⟩
 obtain⟨s1,s2,s3,s4,s5,s6,s7,s8,s9,a8⟩:=a6;have G:∀a b,fN s a b->∀c,c∈s.q a b->c≠t:=λa b hl c H e=>by
  subst e;have:=(hO.lw.b a b hl c H).2;grind
 refine h.eC Z ⟨s1,s2,s3,s4,s5,s6⟩ ⟨rfl,rfl,rfl,rfl,rfl⟩ hs hm ⟨?_,λj hj=>?_,?_,?_⟩ (λj hj a ha=>?_) ?_ ?_ ?_ ?_ ?_ (λa b y a2=>?_) ⟨?_,Nat.le_succ _⟩ ⟨Nat.le_succ _,Nat.succ_le_succ h.B.2⟩
 .rw[W,e2,ex];exact hT.l
 .rw[W,e2,ex];rw[W]at hj;exact hT.f j hj
 .rw[e2,ex];exact hT.o
 .rw[e1,e2,ex];refine⟨λe=>(by cases e),λz e=>?_,λz e=>⟨rfl,rfl⟩,λz e=>?_,λz e=>?_⟩ <;>
  .injection e with e;grind
 .rw[W]at hj;rw[hf]at ha ⊢;grind[Rn.jm]
 .show m.q=_;rw[a4,au ek];exact h.q
 .rw[s7];exact h.xL
 .rw[s8];exact h.sp
 .rw[s9];exact h.ev
 .rw[a8];exact h.ck
 .rw[a4];have a1:=λa b hl hx=>ve (h.L a b hl hx) (λc H=>by rw[hm c (G a b hl c H)];omega);by_cases e:a=3/\b=0
  .obtain⟨rfl,rfl⟩:=e;rw[bf ⟨rfl,rfl⟩];have hp:Cn (s.fK t u) u=(s.q 3 0).findIdx (λa=>decide (u<(m.T a).lH)):=by
    show(s.q 3 0).findIdx (λa=>decide (u<((s.fK t u).T a).iM))=_;refine mR _ (λc H=>?_);have J:=G 3 0 y c H;show decide (u<((s.dx t _).T c).iM)=_;rw[dR _ _ J,((h.T c (hO.ql 3 0 y c H)).h.h3 0 ((hO.lw.b 3 0 y c H).2)).2]
   rw[hp];refine ud _ (a1 3 0 y a2) (λc H hq=>?_) (λc H hq=>?_) (λc c' H a5 a3 hq=>?_)
   .have J:=G 3 0 y c H;have a0:=of_decide_eq_false hq;unfold C1;rw[bf rfl,hm c J,e2,ex];show(m.T c).lH<u\/((m.T c).lH=u/\(m.T c).jw<m.jw+1);have:=h.N c (hO.ql 3 0 y c H);omega
   .have J:=G 3 0 y c H;have a0:=eO hq;unfold C1;rw[bf rfl,hm c J,e2,ex];exact af a0
   have a0:=eO hq;unfold C1 at a3;rw[bf rfl,hm c (G 3 0 y c H),hm c' (G 3 0 y c' a5)]at a3;exact fp ag
  rw[au e];exact a1 a b y a2
 rw[e2,ex];exact bq _
theorem eF.start(h:eF p K s m ρ){t:Nat}{l:List Nat}(hO:fL p s X)(y:t∈s.lv)(hq:s.q 2 0=t :: l):eF p K (s.start t) (m.fF l) ρ:=by
 have J:=h.T t y;have hw:=(hO.lw.b 2 0 (af ⟨rfl,rfl⟩) t eR).2;have e1:(s.start t).T t={ (s.dz t).T t with run:=true }:=di _ _ _;have G:((s.start t).T t).fr=(s.T t).fr:=by rw[e1];exact kg s t t
 have hf:∀i,dq (s.start t) t i=dq s t i:=λi=>gD G;obtain⟨j1,j2,j3,j4,j5,j6,j7,j8,j9,Z⟩:=g8 s t;refine h.eC y ⟨gg s t,j1,j2,j3,j9,Z⟩ ⟨rfl,rfl,rfl,rfl,rfl⟩ (λu e=>(dR _ _ e).trans (uy s e)) (λ_ _=>rfl) ⟨?_,λj H=>?_,J.o,?_⟩ (λj H a ha=>?_) ?_ ?_ ?_ ?_ ?_ (λa b a0 W=>?_) ⟨h.N t y,bq _⟩ ⟨bq _,h.B.2⟩
 .rw[G];exact J.l
 .rw[G]at H ⊢;exact J.f j H
 .have Y:((s.start t).T t).wh=none:=by rw[e1];exact ke s t
  refine⟨λ_=>J.h.h2 0 hw,λz e=>?_,λz e=>?_,λz e=>?_,λz e=>?_⟩ <;>
  .grind
 .rw[G]at H;rw[hf]at ha ⊢;grind[Rn.jm]
 .show l=(s.dz t).q 2 0;rw[gJ hw];show _=(s.fF 2 0 ((s.q 2 0).erase t)).q 2 0;grind[gH]
 .show m.ft=(s.dz t).ft;rw[j5];exact h.xL
 .show m.sp=(s.dz t).sp;rw[j6];exact h.sp
 .show m.ev=(s.dz t).ev;rw[j4];exact h.ev
 .show m.clk=(s.dz t).clk;rw[j7];exact h.ck
 show((s.dz t).q a b).Pairwise _;exact h.FQ hO.lw (hO.lt t y) (λ_ _=>rfl) a b a0 W
theorem yC{t:Nat}(y:LW s)(ht:fm s t):(s.q 2 0).filter (λu=>decide (u≠t))=(s.dz t).q 2 0:=by
 have o:fN s 2 0:=af ⟨rfl,rfl⟩;by_cases hw:(s.T t).wh=some (2,0)
 .rw[gJ hw];show _=(s.fF 2 0 ((s.q 2 0).erase t)).q 2 0;rw[gH,(y.c 2 0 o).erase_eq_filter];grind
 grind[sm,List.filter_eq_self,F.LW.b]
def eF.ID(h:eF p K s m ρ){t kind:Nat}{x:Int}{v:B.V}(hO:fL p s X)(a0:t∈s.lv)(hv:dW p s v)(hs:∀u,u≠t->s'.T u=s.T u)(hm:∀u,u≠t->m'.T u=m.T u)(e:s'.nt=s.nt/\s'.lv=s.lv.erase t/\s'.out=s.out.set (t-1) v/\s'.kp=jS s.kp v/\s'.M=s.M/\s'.ck=s.ck)(e1:s'.q=(s.dz t).q)(e2:s'.ev=s.ev++[(kind,t,x)])(e3:s'.ft=s.ft/\s'.sp=s.sp/\s'.clk=s.clk)(f:m'.nt=m.nt/\m'.nc=m.nc/\m'.M=m.M/\m'.ck=m.ck/\m'.G=m.G)(f1:m'.q=m.q.filter (λu=>decide (u≠t)))(f2:m'.ev=m.ev++[(kind,t,x)])(f3:m'.ft=m.ft/\m'.sp=m.sp/\m'.clk=m.clk)(f4:(m'.T t).how=5/\(m'.T t).fr=[]/\(m'.T t).out=tr ρ v)(f5:m'.jw=m.jw):eF p K s' m' ρ:=by
 obtain⟨a1,a2,a3,a4,a5,a6⟩:=e;obtain⟨b1,b2,b3,b4,b5⟩:=f;have ht:=hO.lt t a0;have y:∀u,u∈s'.lv->u∈s.lv/\u≠t:=λu o=>by
  grind[F.fL.nd]
 have Y:∀u,fm s u->u≠t->oR s' u=oR s u:=λu o hn=>by
  unfold oR;rw[a3,cr,List.getElem?_set_ne (by have:=o.1;have:=ht.1;omega),<-cr]
 have a7:oR s' t=v:=by
  unfold oR;rw[a3,cr,List.getElem?_set_self (by rw[hO.ol];have:=ht.1;have:=ht.2;omega)];rfl
 have hg:∀u,sH p s' u->dW p s u:=by
  rintro u (⟨c,i,a,W,hi,ha,e⟩|o)
  .obtain⟨W,J⟩:=y c W;have hf:dq s' c i=dq s c i:=gD eR;rw[hf]at ha e;rw[hs c J]at hi;exact dW.root (af ⟨c,i,a,W,hi,ha,e⟩)
  rw[a4]at o;rcases pN o with o|⟨rfl,_⟩
  .exact dW.root (ah o)
  exact hv
 obtain⟨k1,k2⟩:=h.cells (m':=m') a5 a6 hg ⟨b2,b3,b4⟩;refine⟨by rw[b1,a1];exact h.nt,?_,by grind[D.eF.xL],by grind[D.eF.sp],by rw[f2,e2,h.ev],by grind[D.eF.ck],λu o=>?_,λu o hn=>?_,k1,k2,λu o=>?_,λa b hl hx=>?_,λu o=>?_,by rw[b5,b2];exact h.A,by rw[a2];exact dU (List.erase_sublist.length_le) h.lm,by rw[b2,f5];exact h.B⟩
 .rw[f1,h.q,e1];grind[yC,F.fL.lw]
 .grind[D.eF.T]
 .grind[ey,D.eF.O]
 .rw[a4]at o;rcases pN o with o|⟨rfl,_⟩
  .obtain⟨c,c1,c2,c3⟩:=h.Kp u o;have J:c≠t:=λe=>c2 (e▸a0);exact⟨c,(ey a1).2 c1,λW=>c2 (y c W).1,by rw[Y c c1 J];exact c3⟩
  exact⟨t,(ey a1).2 ht,λW=>(y t W).2 rfl,a7⟩
 .rw[e1];exact h.FQ hO.lw ht hm a b ((gC a1).1 hl) hx
 obtain⟨o,H⟩:=y u o;rw[hm u H,f5];exact h.N u o
def eF.gone(h:eF p K s m ρ){t kind:Nat}{x:Int}{v:B.V}(W:fL p s X)(i:t∈s.lv)(hv:dW p s v):eF p K (s.gone t v kind x) (m.gone t kind x (tr ρ v)) ρ:=by
 obtain⟨g1,g2,Y,g4,H,g6,J,Z,G,y⟩:=ja s t v kind x;exact h.ID W i hv (λu e=>nH s v kind x e) (λu e=>fW _ _ e) ⟨jL s t v kind x,g1,g2,Y,J,Z⟩ y G ⟨g4,(g8 s t).2.2.2.2.2.1,H⟩ ⟨rfl,rfl,rfl,rfl,rfl⟩ rfl rfl ⟨rfl,rfl,rfl⟩ (by show((m.dx t _).T t).how=_/\((m.dx t _).T t).fr=_/\((m.dx t _).T t).out=_;rw[gi];exact⟨rfl,rfl,rfl⟩) rfl
def eF.L8(h:eF p K s m ρ){t kind:Nat}{x:Int}{v:B.V}(W:fL p s X)(i:t∈s.lv)(hw:(s.T t).wh=none)(hv:dW p s v):eF p K ((s.pop t).gone t v kind x) ((m.pop t).gone t kind x (tr ρ v)) ρ:=by
 obtain⟨g1,g2,Y,g4,H,g6,J,Z,G,y⟩:=ja s t v kind x;rw[qV hw];exact h.ID W i hv (λu e=>(lA _ e).trans (nH s v kind x e)) (λu e=>(fW _ _ e).trans (fW _ _ e)) ⟨jL s t v kind x,g1,g2,Y,J,Z⟩ y G ⟨g4,(g8 s t).2.2.2.2.2.1,H⟩ ⟨rfl,rfl,rfl,rfl,rfl⟩ rfl rfl ⟨rfl,rfl,rfl⟩ (by show(((m.pop t).dx t _).T t).how=_/\(((m.pop t).dx t _).T t).fr=_/\(((m.pop t).dx t _).T t).out=_;rw[gi];exact⟨rfl,rfl,rfl⟩) rfl
def nI{l:List jc}{i:Nat}(h:i+1<l.length):l.dropLast.getD i n6=l.getD i n6:=by
 grind
theorem eF.back(h:eF p K s m ρ){t:Nat}{v:B.V}(i:t∈s.lv)(h0:de s t≠0)(hv:dW p s v):eF p K (s.back t v) ((m.pop t).dJ t (qd m t-1) ((fU m t (qd m t-1)).set (pS m t).bk.2.1 (tr ρ v))) ρ:=by
 have y:=h.T t i;have e:qd m t=de s t:=by unfold qd de;rw[y.l]
 have hn:de s t+1=(s.T t).fr.length:=by unfold de at h0 ⊢;omega
 have a2:(pS m t).bk.2.1=(bw s t).bk.2.1:=by
  unfold pS;rw[e];exact(y.f (de s t) ag).bk h0
 rw[e,a2];unfold Pl.back;rw[au h0];have e1:((s.pop t).dJ t (de s t-1) ((dq s t (de s t-1)).set (dq s t (de s t)).bk.2.1 v)).T t={ (s.T t).mz (s.T t).fr.dropLast with fr:=((s.T t).fr.dropLast).set (de s t-1) ((dq s t (de s t-1)).set (dq s t (de s t)).bk.2.1 v) }:=by
  unfold Pl.dJ;rw[di];unfold Pl.pop;rw[di];rfl
 have J:((m.pop t).dJ t (de s t-1) ((fU m t (de s t-1)).set (bw s t).bk.2.1 (tr ρ v))).T t=((m.T t).mz (m.T t).fr.dropLast).mz (((m.T t).fr.dropLast).set (de s t-1) ((fU m t (de s t-1)).set (bw s t).bk.2.1 (tr ρ v))):=by
  unfold Dm.dJ;rw[gi];unfold Dm.pop;rw[gi];rfl
 refine h.eC i ⟨rfl,rfl,rfl,rfl,rfl,rfl⟩ ⟨rfl,rfl,rfl,rfl,rfl⟩ (λu e=>(qp _ _ e).trans (lA _ e)) (λu e=>(fW _ _ e).trans (fW _ _ e)) ⟨?_,λj Y=>?_,?_,?_⟩ (λj Y a ha=>?_) h.q h.xL h.sp h.ev h.ck (h.L0 rfl (λa=>?_)) ⟨?_,bq _⟩ ⟨bq _,h.B.2⟩
 .rw[e1,J];show(((m.T t).fr.dropLast).set _ _).length=(((s.T t).fr.dropLast).set _ _).length;grind[List.length_set,List.length_dropLast,D.TS.l]
 .rw[e1]at Y ⊢;rw[J];have H:j<(((s.T t).fr.dropLast).set (de s t-1) ((dq s t (de s t-1)).set (dq s t (de s t)).bk.2.1 v)).length:=Y;rw[eA,eY]at H;show FS p ρ j ((((s.T t).fr.dropLast).set _ _).getD j n6) ((((m.T t).fr.dropLast).set _ _).getD j n6);rw[mQ eR,mQ (by rw[eY,y.l];omega)];by_cases G:j=de s t-1
  .rw[bf G,bf G,G];have Z:=y.f (de s t-1) ag;refine⟨Z.f,Z.nx,Z.bk,λk hk=>?_⟩;show B.set (fU m t (de s t-1)).R _ (tr ρ v) k=tr ρ (B.set (dq s t (de s t-1)).R _ v k);by_cases W:k=(dq s t (de s t)).bk.2.1
   .grind[B.jN]
   rw[B.iX _ _ _ _ W,B.iX _ _ _ _ W];exact Z.R k hk
  rw[au G,au G,nI ag,nI (kr y.l)];exact y.f j ag
 .rw[J];exact y.o
 .rw[e1,J];exact y.h.same rfl rfl rfl rfl rfl rfl rfl
 .rw[e1]at Y;have H:j<(((s.T t).fr.dropLast).set (de s t-1) ((dq s t (de s t-1)).set (dq s t (de s t)).bk.2.1 v)).length:=Y;rw[eA,eY]at H
  by_cases G:j=de s t-1
  .subst G;rw[mh (s.pop t) _ (kr tG)]at ha ⊢;show dW p s (B.set (dq s t (de s t-1)).R _ v a);by_cases W:a=(dq s t (de s t)).bk.2.1
   .subst W;rw[B.jN];exact hv
   rw[B.iX _ _ _ _ W];exact Rn.jm i _ ag a ha
  rw[lN (s.pop t) _ (λe'=>G e'.2),pJ s (λ_=>by omega)]at ha ⊢;exact Rn.jm i j ag a ha
 .by_cases ea:a=t
  .subst ea;rw[J];exact⟨rfl,rfl⟩
  rw[show((m.pop t).dJ t (de s t-1) ((fU m t (de s t-1)).set (bw s t).bk.2.1 (tr ρ v))).T a=m.T a from(fW _ _ ea).trans (fW _ _ ea)];exact⟨rfl,rfl⟩
 rw[J];exact h.N t i
def my{l:List jc}{f:jc}{i:Nat}:(l++[f]).getD i n6=if i=l.length then f else l.getD i n6:=by
 grind
theorem eF.push(h:eF p K s m ρ){t:Nat}{f G:jc}(y:t∈s.lv)(hf:FS p ρ (s.T t).fr.length f G)(hR:∀a,a<p.rg f.f->dW p s (f.R a)):eF p K (s.push t f) (m.push t G) ρ:=by
 have W:=h.T t y;have Z:(s.push t f).T t=(s.T t).mz ((s.T t).fr++[f]):=di _ _ _;have H:(m.push t G).T t=(m.T t).mz ((m.T t).fr++[G]):=gi _ _ _;refine h.eC y ⟨rfl,rfl,rfl,rfl,rfl,rfl⟩ ⟨rfl,rfl,rfl,rfl,rfl⟩ (λu e=>qt s f e) (λu e=>fW _ _ e) ⟨?_,λj J=>?_,?_,?_⟩ (λj J a Y=>?_) h.q h.xL h.sp h.ev h.ck (h.L0 rfl (λa=>?_)) ⟨?_,bq _⟩ ⟨bq _,h.B.2⟩
 .rw[Z,H];show((m.T t).fr++[G]).length=((s.T t).fr++[f]).length;grind[List.length_append,D.TS.l]
 .rw[Z]at J ⊢;rw[H];have i:j<((s.T t).fr++[f]).length:=J;rw[cw]at i;show FS p ρ j (((s.T t).fr++[f]).getD j n6) (((m.T t).fr++[G]).getD j n6);rw[my,my,W.l];by_cases e:j=(s.T t).fr.length
  .grind
  rw[au e,au e];grind[D.TS.f]
 .rw[H];exact W.o
 .rw[Z,H];exact W.h.same rfl rfl rfl rfl rfl rfl rfl
 .rw[tF,cw]at J;by_cases e:j=(s.T t).fr.length
  .grind[wV]
  have i:j<(s.T t).fr.length:=by simp at J;omega
  rw[pn s f (λ_=>i)]at Y ⊢;grind[Rn.jm]
 .by_cases ea:a=t
  .subst ea;rw[H];exact⟨rfl,rfl⟩
  rw[show(m.push t G).T a=m.T a from fW _ _ ea];omega
 rw[H];exact h.N t y
theorem eF.mf(h:eF p K s m ρ){t:Nat}(y:t∈s.lv):eF p K (s.mf t) ((m.told 5 t 0).AO) ρ:=by
 have J:=h.T t y;have Y:(s.mf t).T t=(s.T t).stop:=di _ _ _;have G:((s.mf t).T t).fr=(s.T t).fr:=jx Y
 have Z:∀i,dq (s.mf t) t i=dq s t i:=λi=>gD G;refine h.eC y ⟨rfl,rfl,rfl,rfl,rfl,rfl⟩ ⟨rfl,rfl,rfl,rfl,rfl⟩ (λu e=>dR _ _ e) (λu e=>rfl) ⟨?_,λj H=>?_,J.o,?_⟩ (λj H a W=>?_) h.q h.xL rfl ?_ h.ck (h.L0 rfl (λa=>⟨rfl,rfl⟩)) ⟨h.N t y,bq _⟩ ⟨bq _,h.B.2⟩
 .rw[G];exact J.l
 .rw[G]at H ⊢;exact J.f j H
 .rw[Y];exact J.h.same rfl rfl rfl rfl rfl rfl rfl
 .rw[G]at H;rw[Z]at W ⊢;grind[Rn.jm]
 show m.ev++[(5,t,0)]=s.ev++[(5,t,0)];rw[h.ev]
theorem iG(h:eF p K s m ρ)(t:Nat):mY m t↔fm s t:=by
 unfold mY fm;rw[h.nt]
theorem eF.wh(h:eF p K s m ρ)(o:fL p s X){t:Nat}(i:t∈s.lv):((s.T t).wh=none/\(m.T t).how=1)\/((s.T t).wh=some (2,0)/\(m.T t).how=1)\/((s.T t).wh=some (3,0)/\(m.T t).how=2)\/(∃k,k<4/\(s.T t).wh=some (4,k)/\(m.T t).how=3/\(m.T t).what=k)\/(∃u,fm s u/\(s.T t).wh=some (5,u)/\(m.T t).how=4/\(m.T t).what=u):=by
 have e:=(h.T t i).h
 cases hw:(s.T t).wh with
 | none=>grind[D.HS.h0]
 | some J=>
  obtain⟨x,y⟩:=J;obtain⟨W,_,_⟩:=o.lw.a t (o.lt t i) x y hw;rcases W with⟨rfl,rfl⟩|⟨rfl,rfl⟩|⟨rfl,H⟩|⟨rfl,G⟩
  .grind[D.HS.h2]
  .exact ah (ah (af ⟨rfl,(e.h3 0 hw).1⟩))
  .grind[D.HS.h4]
  grind[D.HS.h5]
theorem eF.how(h:eF p K s m ρ)(u:fL p s X){t:Nat}(ht:fm s t):((m.T t).how≠5↔t∈s.lv):=by
 constructor
 .intro o;exact Classical.byContradiction λhn=>o (h.O t ht hn).1
 intro i;rcases h.wh u i with e|e|e|⟨_,_,_,e,_⟩|⟨_,_,_,e,_⟩<;>(omega)<;>omega
def eF.live(h:eF p K s m ρ)(i:fL p s X){N:Nat}(o:FR m N):N=s.lv.length:=
 o.uniq (Q:=λt=>t∈s.lv) ⟨s.lv,i.nd,λ_=>Iff.rfl,rfl⟩ (λt=>by
  grind[iG,D.eF.how,F.fL.lt])
theorem eF.Mw(h:eF p K s m ρ)(i:fL p s X){x y t:Nat}(W:fN s x y)(hx:x=4\/x=5):(mY m t/\(m.T t).how=x-1/\(m.T t).what=y)↔t∈s.q x y:=by
 rw[iG h];constructor
 .grind[D.eF.wh,D.eF.how,F.LW.a,F.fL.lw]
 intro J;obtain⟨ht,hw⟩:=i.lw.b x y W t J;have o:=(h.T t (i.ql x y W t J)).h;grind[D.HS.h4,D.HS.h5]
def eF.first(h:eF p K s m ρ)(o:fL p s X){x y b:Nat}(i:fN s x y)(hx:x=4\/x=5)(G:Ko m (x-1) y b):(b=0/\s.q x y=[])\/∃l,s.q x y=b :: l:=by
 rcases G with⟨rfl,G⟩|⟨Z,W,Y,b4⟩
 .left
  refine⟨rfl,?_⟩
  cases hq:s.q x y with
  | nil=>rfl
  | cons a l=>
   have:=(h.Mw o i hx (t:=a)).2 eR;grind
 right
 have e:=(h.Mw o i hx).1 ⟨Z,W,Y⟩
 cases hq:s.q x y with
 | nil=>grind
 | cons a l=>
  refine⟨l,?_⟩;rw[hq]at e;rcases List.mem_cons.1 e with rfl|e
  .rfl
  have H:=h.L x y i ag;rw[hq,List.pairwise_cons]at H;have J:=H.1 b e;unfold C1 at J;rw[eD]at J;grind[D.eF.Mw]
theorem eF.My(h:eF p K s m ρ)(i:fL p s X){t:Nat}:(mY m t/\(m.T t).how=2)↔t∈s.q 3 0:=by
 have G:fN s 3 0:=ah (af ⟨rfl,rfl⟩);rw[iG h];grind[D.eF.wh,D.eF.how,F.LW.a,F.fL.lw,F.LW.b,D.HS.h3,D.TS.h,D.eF.T,F.fL.ql]
theorem eF.lH(h:eF p K s m ρ)(o:fL p s X){t:Nat}(e:t∈s.q 3 0):(m.T t).lH=(s.T t).iM:=by
 have i:fN s 3 0:=ah (af ⟨rfl,rfl⟩);exact((h.T t (o.ql 3 0 i t e)).h.h3 0 (o.lw.b 3 0 i t e).2).2
def eF.due(h:eF p K s m ρ)(u:fL p s X){b:Nat}(H:Kq m b):(b=0/\∀a l,s.q 3 0=a :: l->¬(s.T a).iM<=s.clk)\/(b≠0/\∃l,s.q 3 0=b :: l/\(s.T b).iM<=s.clk):=by
 rcases H with⟨rfl,H⟩|⟨W,b2,b3,b4⟩
 .left
  refine⟨rfl,λa l o hc=>?_⟩;have i:a∈s.q 3 0:=by rw[o];simp
  have:=(h.My u).2 i;grind[D.eF.lH,D.eF.ck]
 right
 have y:=(h.My u).1 ⟨W,b2⟩;refine⟨ag,?_⟩
 cases o:s.q 3 0 with
 | nil=>grind
 | cons a l=>
  have e:=y;rw[o]at e;rcases List.mem_cons.1 e with rfl|e
  .grind[D.eF.lH,D.eF.ck]
  exfalso
  have Z:=h.L 3 0 (ah (af ⟨rfl,rfl⟩)) ek;rw[o,List.pairwise_cons]at Z;have J:=Z.1 b e;unfold C1 at J;rw[bf rfl]at J;grind[yM,D.eF.My]
def FN(d:Dp)(m:Dm)(v:B.V):Prop:=(∃t,mY m t/\(m.T t).out=v)\/∃t i a,mY m t/\i<(m.T t).fr.length/\a<d.rg (fU m t i).f/\(fU m t i).R a=v
inductive nL (d : Dp) (m : Dm) : Nat → Prop
  | root {v : B.V} : FN d m v → v.1 ≠ 0 → nL d m v.1
  | slot {c : Nat} {v : B.V} : nL d m c → v ∈ m.M c → v.1 ≠ 0 → nL d m v.1
def lZ(d:Dp)(m:Dm)(N:Nat):Prop:=Db (nL d m) N
def pU.ind{P:Nat->Prop}{c:Nat}(y:pU p s c)(H:∀v,sH p s v->v.1≠0->P v.1)(G:∀k v,pU p s k->P k->v∈s.M k->v.1≠0->P v.1):P c:=by
 have:=y (λk=>pU p s k/\P k) (λi hi e=>⟨B.pk (B.pG hi) e,H _ (iw.1 (B.pG hi)) e⟩) (λk o v u e=>⟨B.mr o.1 u e,G k v o.1 o.2 u e⟩);grind
theorem eF.Nd(h:eF p K s m ρ){d:Dp}(hO:Ok p s)(hP:PD p d){c:Nat}(hc:pU p s c):nL d m (ρ c):=by
 refine hc.ind (P:=λc=>nL d m (ρ c)) (λv o e=>?_) (λk v hk Y o e=>?_)
 .rcases o with⟨u,i,a,y,hi,G,rfl⟩|o
  .have hT:=h.T u y;have J:=hT.f i hi;have:=nL.root (d:=d) (m:=m) (v:=(fU m u i).R a) (ah ⟨u,i,a,(iG h u).2 (hO.lt u y),eV hT.l hi,?_,rfl⟩) ?_
   .rw[show(fU m u i).R a=tr ρ ((dq s u i).R a) from J.R a G,qI e]at this;omega
   .rw[show(fU m u i).f=(dq s u i).f from J.f,hP.rg (dq s u i).f ((hO.fw u y trivial).f i hi).1];exact G
   rw[show(fU m u i).R a=tr ρ ((dq s u i).R a) from J.R a G,qI e];have:=(h.C _ (B.pk (iw.2 (af ⟨u,i,a,y,hi,G,rfl⟩)) e)).c1;omega
  obtain⟨t,t1,t2,t3⟩:=h.Kp v o;have Z:=(h.O t t1 t2).2.2;rw[t3,qI e]at Z;have:=nL.root (d:=d) (m:=m) (v:=(m.T t).out) (af ⟨t,(iG h t).2 t1,rfl⟩) ?_
  .grind
  rw[Z];have:=(h.C _ (B.pk (iw.2 (ah o)) e)).c1;omega
 have:=nL.slot (d:=d) (m:=m) (v:=tr ρ v) Y (by rw[(h.C k hk).M];grind) ?_
 .grind[qI]
 rw[qI e];have:=(h.C _ (B.mr hk o e)).c1;omega
theorem eF.LC(h:eF p K s m ρ){d:Dp}(hO:Ok p s)(hP:PD p d){c:Nat}(hc:nL d m c):∃k,pU p s k/\ρ k=c:=by
 induction hc with
 | @root v hv Z=>
  have W:∀u,sH p s u->tr ρ u=v->∃k,pU p s k/\ρ k=v.1:=λu hu e=>by
   grind[ox,B.pk,qI,F.iw]
  rcases hv with⟨t,ht,e⟩|⟨t,i,a,ht,hi,ha,e⟩
  .have G:=(iG h t).1 ht;by_cases y:t∈s.lv
   .rw[(h.T t y).o]at e;grind
   have ho:=(h.O t G y).2.2;have Y:t-1<s.out.length:=by rw[hO.ol];have:=G.2;omega
   have a0:oR s t∈s.out:=by
    unfold oR;rw[cr,bz Y];exact List.getElem_mem Y
   rcases hO.ok _ a0 with J|J
   .grind[ox,absurd]
   exact W _ (ah J) eR
  have G:=(iG h t).1 ht;by_cases y:t∈s.lv
  .have hT:=h.T t y;rw[hT.l]at hi;have hF:=hT.f i hi;have hf:(fU m t i).f=(dq s t i).f:=hF.f;rw[hf,hP.rg (dq s t i).f ((hO.fw t y trivial).f i hi).1]at ha;exact W _ (af ⟨t,i,a,y,hi,ha,rfl⟩) ((hF.R a ha).symm.trans e)
  rw[(h.O t G y).2.1]at hi;grind
 | @slot c v hc hv Z ih=>
  obtain⟨k,hk,rfl⟩:=ih;rw[(h.C k hk).M]at hv;obtain⟨u,hu,rfl⟩:=eK.1 hv;grind[ox,B.mr,qI]
theorem mx{f:Nat->Nat}:∀(l:List Nat),l.Nodup->(∀a,a∈l->∀b,b∈l->f a=f b->a=b)->(l.map f).Nodup
 | [],_,_=>List.nodup_nil
 | a :: l,h,hf=>by
  rw[List.nodup_cons]at h;rw[List.map_cons,List.nodup_cons];refine⟨λu=>?_,mx l h.2 (λb i c o=>hf b (by simp[i]) c (by simp[o]))⟩;grind
theorem EC:∀(n:Nat) (l:List Nat),(∀c,1<=c->c<=n->c∈l)->n<=l.length
 | 0,_,_=>dk _
 | n+1,l,h=>by
  have i:=h (n+1) ag (bq _);have:=EC n (l.erase (n+1)) (λc c1 o=>(List.mem_erase_of_ne ag).2 (h c c1 ag));grind
def eF.count(h:eF p K s m ρ){d:Dp}(G:Ok p s)(hP:PD p d){N:Nat}(J:lZ d m N):∃l:List Nat,l.Nodup/\(∀c,c∈l↔pU p s c)/\N=l.length:=by
 classical
 let l:=((List.range (p.n+1)).filter (λc=>decide (pU p s c)))
 have u:∀c,c∈l↔pU p s c:=λc=>by
  show c∈(List.range (p.n+1)).filter (λc=>decide (pU p s c))↔_;rw[List.mem_filter,fI];constructor
  .grind
  intro i;exact⟨by have:=(B.qS G.hl i).2.2;omega,fp i⟩
 have o:l.Nodup:=List.nodup_range.filter _;refine⟨l,o,u,?_⟩;have H:(l.map ρ).Nodup:=by
  exact mx _ o (λa W b Y e=>h.I a b ((u a).1 W) ((u b).1 Y) e)
 have:=J.uniq (Q:=nL d m) (K:=(l.map ρ).length) ⟨l.map ρ,H,λc=>?_,rfl⟩ (λ_=>Iff.rfl)
 .grind
 grind[D.eF.Nd,D.eF.LC]
def eF.room(h:eF p K s m ρ){d:Dp}(H:Ok p s)(hP:PD p d){N:Nat}(hN:lZ d m N):N<=p.n/\(N<p.n↔∃c,1<=c/\c<=p.n/\¬pU p s c):=by
 classical
 obtain⟨l,J,u,rfl⟩:=h.count H hP hN;have i:=λc o=>(B.qS H.hl ((u c).1 o)).2;refine⟨gK p.n l J i,λW=>?_,λ⟨c,c1,y,c3⟩=>?_⟩
 .refine Classical.byContradiction λG=>?_;have:=EC p.n l (λc c1 y=>(u c).2 (Classical.byContradiction λZ=>G ⟨c,c1,y,Z⟩));omega
 have Y:=gK p.n (c :: l) (List.nodup_cons.2 ⟨λo=>c3 ((u c).1 o),J⟩) (λt ht=>by
  grind)
 grind
